import copy
import random
import re
import unittest

from tapepour.errors import NoText
from tapepour.notes import read_load, read_plan, read_tapes, shown_load, shown_plan, shown_tapes

GREAT = 10 ** 60 - 1
GREATEST = 10 ** 120 - 1

NUMBER = "(?:0|-?[1-9][0-9]*)"
SIGNS = "0159-:|.,;>* \n+a"


def run_of(*keys):
    return [(key, 0) for key in keys]


def load_in(text):
    """The load in a text by its signs alone, or None."""
    if not re.fullmatch(f"{NUMBER}( {NUMBER}){{2,5}}", text):
        return None
    load = tuple(int(word) for word in text.split())
    return load if min(load) >= 0 else None


def pour_in(text):
    """The pour for six tapes in a text by its signs alone, or None."""
    found = re.fullmatch(r"([0-5](?:,[0-5]){0,4})>([0-5])\*([1-9][0-9]*)", text)
    if not found:
        return None
    froms = tuple(int(word) for word in found[1].split(","))
    to = int(found[2])
    return None if to in froms or list(froms) != sorted(set(froms)) else (froms, to, int(found[3]))


def plan_in(text):
    """The plan in a text by its signs alone, or None."""
    pours = [pour_in(part) for part in text.split("; ")] if text else []
    return None if None in pours else pours


def tapes_in(text):
    """The tapes in a text by its signs alone, or None."""
    run = rf"(?:\.|{NUMBER}:{NUMBER}(?: {NUMBER}:{NUMBER})*)"
    tape = rf"(?:-|{run}(?: \| {run})*)"
    if not re.fullmatch(rf"{tape}(\n{tape}){{2,5}}", text):
        return None
    tapes = [[] if row == "-" else [[] if part == "." else
             [tuple(int(number) for number in item.split(":")) for item in part.split(" ")]
             for part in row.split(" | ")] for row in text.split("\n")]
    return tapes if all(found == sorted(found) for found_tape in tapes for found in found_tape) else None


def changed_texts(text):
    """The text with one sign left out, put in or put in another's stead, or two turned round."""
    for at in range(len(text) + 1):
        yield text[:at] + text[at + 1:]
        yield text[:at] + text[at:at + 2][::-1] + text[at + 2:]
        for sign in SIGNS:
            yield text[:at] + sign + text[at:]
            yield text[:at] + sign + text[at + 1:]


def number_of_any_length(source):
    return source.choice([0, 1, 7, 10, 205, 10 ** source.randrange(120), GREATEST, source.randrange(GREAT)])


def any_number(source):
    return source.choice([1, -1]) * number_of_any_length(source)


def any_pour(source):
    froms = tuple(sorted(source.sample(range(6), source.randrange(1, 6))))
    to = source.choice([tape for tape in range(6) if tape not in froms])
    return froms, to, number_of_any_length(source) + 1


def any_tapes(source):
    return [[sorted((any_number(source), any_number(source)) for item in range(source.randrange(4)))
             for run in range(source.randrange(4))] for tape in range(source.randrange(3, 7))]


class NotesTest(unittest.TestCase):
    def both(self, shown, read, told, text):
        self.assertEqual(shown(told), text)
        self.assertEqual(read(text), told)
        self.assertIs(type(read(text)), type(told))

    def refused(self, read, texts):
        for text in texts:
            with self.subTest(text), self.assertRaises(NoText) as caught:
                read(text)
            self.assertIs(type(caught.exception), NoText)

    def as_by_signs_alone(self, read, told_in, texts):
        """Every text near one of these is read, or refused, as its signs alone tell."""
        fitting = 0
        for text in texts:
            for changed in changed_texts(text):
                told = told_in(changed)
                if told is None:
                    with self.assertRaises(NoText, msg=repr(changed)):
                        read(changed)
                else:
                    fitting += 1
                    self.assertEqual(read(changed), told, repr(changed))
        self.assertGreater(fitting, 0)


class LoadNotesTest(NotesTest):
    def test_written_and_read(self):
        for load, text in (((2, 1, 0), "2 1 0"), ((0, 0, 0), "0 0 0"), ((1, 0, 0), "1 0 0"),
                           ((10, 200, 3, 0), "10 200 3 0"), ((5, 4, 3, 2, 1, 0), "5 4 3 2 1 0"),
                           ((GREAT, 0, 100), "9" * 60 + " 0 100"), ((GREATEST, 0, 0), "9" * 120 + " 0 0")):
            self.both(shown_load, read_load, load, text)

    def test_other_texts(self):
        self.refused(read_load, [
            "", " ", "0", "1 0", "1 0 0 0 0 0 0", "2  1 0", " 2 1 0", "2 1 0 ", "2 1 0\n", "\n2 1 0", "2\n1\n0",
            "2,1,0", "2\t1 0", "02 1 0", "2 1 00", "-0 1 0", "+2 1 0", "2 -1 0", "-1 -1 -1", "2 1 -", "2 1 --1",
            "2 1 x", "2 1 1x",
            "2 1 1.0", "2 1 1e1", "2 1 1_0", "2 1 0x1", "(2, 1, 0)", "2 1 0;", "None", "-", "- - -", "2 1 0 -1",
            "0" + "9" * 119 + " 0 0", "-" + "9" * 120 + " 0 0", " ".join(["0"] * 400), "0 0 0 0 0 0 0 0 0 0",
        ])

    def test_texts_that_are_nearly_right(self):
        self.as_by_signs_alone(read_load, load_in, ["2 1 0", "10 0 5 11", "1 2 3 4 5 0"])


class PlanNotesTest(NotesTest):
    def test_written_and_read(self):
        for plan, text in (
                ([], ""), ([((0, 2), 1, 5)], "0,2>1*5"), ([((0,), 1, 1)], "0>1*1"),
                ([((0, 1), 2, 1), ((0, 2), 1, 10)], "0,1>2*1; 0,2>1*10"),
                ([((0, 1, 2, 3, 4), 5, 2)], "0,1,2,3,4>5*2"), ([((1, 2, 3, 4, 5), 0, 2)], "1,2,3,4,5>0*2"),
                ([((5,), 4, GREAT)], "5>4*" + "9" * 60), ([((5,), 4, GREATEST)], "5>4*" + "9" * 120),
                ([((0,), 1, 1)] * 400, "; ".join(["0>1*1"] * 400))):
            self.both(shown_plan, read_plan, plan, text)

    def test_other_texts(self):
        self.refused(read_plan, [
            " ", ";", "; ", "-", ".", "\n", "0", "0>1", "0*1", "0>1*", "0>*1", ">1*1", ">*", ",>1*1", "0,>1*1",
            ",0>1*1", "0,,2>1*5", "0, 2>1*5", "0 ,2>1*5", "0,2 >1*5", "0,2> 1*5", "0,2>1 *5", "0,2>1* 5", " 0,2>1*5",
            "0,2>1*5 ",
            "0,2>1*5;", "0,2>1*5; ", "; 0,2>1*5", "0>1*1;0>1*1", "0>1*1 ;0>1*1", "0>1*1;  0>1*1", "0>1*1 ; 0>1*1",
            "0>1*1; ; 0>1*1", "0>1*1, 0>1*1", "0>1*1\n0>1*1", "0>1*1;\n0>1*1", "0>1*1\n", "0>1*1 0>1*1",
            "0>1*1>2*1", "0>1*1*1", "0>1>1", "0*1>1", "0*1*1", "0<1*1", "0,2>1x5", "0.2>1*5", "((0,), 1, 1)",
            "00>1*1", "0>01*1", "0>1*01", "-0>1*1", "0>-0*1", "0>1*-0", "0>1*+1", "+0>1*1", "0>+1*1",
            "0>1*1_0", "0>1*1.0", "a>1*1", "0>b*1", "0>1*c", "none",
        ])

    def test_no_pours(self):
        self.refused(read_plan, [
            "0>1*0", "0>1*-1", "0>0*1", "0,1>1*1", "0,0>1*1", "1,0>2*1", "0,2,1>3*1", "6>0*1", "0>6*1", "0,6>1*1",
            "-1>0*1", "0>-1*1", "0,1,2,3,4,5>6*1", "0,1,2,3,4,5>0*1", "0,1,2,3,4,5>5*1",
            "0>1*1; 0>1*0", "0>1*0; 0>1*1",
            "0>" + "9" * 60 + "*1", "9" * 60 + ">0*1", "0>1*-" + "9" * 60,
        ])

    def test_texts_that_are_nearly_right(self):
        self.as_by_signs_alone(read_plan, plan_in, ["0,2>1*5", "0>1*10; 1,2,5>4*1", "0,1,2,3,4>5*1", ""])


class TapesNotesTest(NotesTest):
    def test_written_and_read(self):
        for tapes, text in (
                ([[], [], []], "-\n-\n-"), ([[]] * 6, "-\n-\n-\n-\n-\n-"), ([[[]], [], []], ".\n-\n-"),
                ([[[], []], [[]], []], ". | .\n.\n-"),
                ([[[(1, 0), (4, 2)], [(2, 1)]], [[], [(3, 3)], []], []], "1:0 4:2 | 2:1\n. | 3:3 | .\n-"),
                ([[[(-5, 0), (-5, 0), (-5, 1), (0, -7)]], [], [], []], "-5:0 -5:0 -5:1 0:-7\n-\n-\n-"),
                ([[[(-GREAT, GREAT), (GREAT, -GREAT)]], [], []], f"-{GREAT}:{GREAT} {GREAT}:-{GREAT}\n-\n-"),
                ([[[(-GREATEST, GREATEST)]], [], []], f"-{GREATEST}:{GREATEST}\n-\n-"),
                ([[], [run_of(*range(400))], []], "-\n" + " ".join([f"{key}:0" for key in range(400)]) + "\n-"),
                ([[[]] * 400, [], []], " | ".join(["."] * 400) + "\n-\n-")):
            self.both(shown_tapes, read_tapes, tapes, text)

    def test_other_texts(self):
        self.refused(read_tapes, [
            row + "\n-\n-" for row in (
                "", " ", "--", "- ", " -", "- | -", "- | .", ". | -", ". .", "..", ". ", " .", ".|.", ". |.", ".| .",
                ".  | .", ". |  .", ". | ", " | .", " | ", "|", ". |", "| .", ". | | .", ". |  | .", ". || .",
                "1:0 .", ". 1:0", "1:0.", "-.", "1:0  2:0", " 1:0", "1:0 ", "1:0\t2:0", "1 :0", "1: 0", "1 0", "1",
                "1:",
                ":0", ":", "1:0:0", "1::0", "1;0", "1,0", "1:0,2:0", "1:0|2:0", "1:0 |2:0", "1:0| 2:0", "1:0  | 2:0",
                "1:0 | ", "01:0", "1:00", "-0:0", "0:-0", "+1:0", "1:+0", "1:0 -", "- 1:0", "--1:0", "1:--1", "1.0:0",
                "x:0", "1:x", "(1, 0)", "[]", "1_0:0")
        ])

    def test_other_numbers_of_tapes(self):
        for row in ("-", ".", "1:0"):
            self.refused(read_tapes, ["\n".join([row] * many) for many in (1, 2, 7, 8, 400)])
            for many in range(3, 7):
                self.assertEqual(len(read_tapes("\n".join([row] * many))), many)
        self.refused(read_tapes, ["", "\n", "\n\n", "-\n-\n", "\n-\n-", "-\n-\n-\n", "\n-\n-\n-", "-\n\n-", "-\n-\n\n-",
                                  "- - -", "-; -; -", "-\r\n-\r\n-"])

    def test_runs_out_of_order(self):
        self.refused(read_tapes, ["2:0 1:0\n-\n-", "-\n-\n1:1 1:0", "-\n1:0 | 1:0 3:0 2:9\n-", "-\n-\n-1:0 -2:0",
                                  "-\n-\n-\n-\n-\n9:0 10:0 8:0"])
        # In order by numbers, not by signs; unlike runs may fall.
        self.assertEqual(read_tapes("9:0 10:0 | 3:0\n-\n2:0"), [[run_of(9, 10), run_of(3)], [], [run_of(2)]])
        self.assertEqual(read_tapes("-2:0 -1:0\n-\n1:9 1:10"), [[run_of(-2, -1)], [], [[(1, 9), (1, 10)]]])

    def test_texts_that_are_nearly_right(self):
        self.as_by_signs_alone(read_tapes, tapes_in,
                               ["-\n-\n-", "1:0 | .\n-\n2:0 11:-5", ". | .\n-5:0 0:1\n-\n-\n1:1 1:1",
                                "-\n.\n-\n-\n-\n9:0"])


class AnyNotesTest(unittest.TestCase):
    def test_what_is_written_is_read_back(self):
        source = random.Random(22)
        for case in range(500):
            load = tuple(number_of_any_length(source) for tape in range(source.randrange(3, 7)))
            self.assertEqual(read_load(shown_load(load)), load)
            self.assertEqual(load_in(shown_load(load)), load)
            plan = [any_pour(source) for pour in range(source.randrange(5))]
            self.assertEqual(read_plan(shown_plan(plan)), plan)
            self.assertEqual(plan_in(shown_plan(plan)), plan)
            tapes = any_tapes(source)
            self.assertEqual(read_tapes(shown_tapes(tapes)), tapes)
            self.assertEqual(tapes_in(shown_tapes(tapes)), tapes)

    def test_handed_in_stays(self):
        tapes = [[[(1, 0), (2, 0)], []], [], [[(3, 3)]]]
        plan = [((0, 1), 2, 1)]
        kept = copy.deepcopy((tapes, plan))
        shown_tapes(tapes)
        shown_plan(plan)
        self.assertEqual((tapes, plan), kept)

    def test_told_is_the_askers_own(self):
        for read, text in ((read_plan, ""), (read_plan, "0>1*1; 0>1*1"), (read_tapes, "-\n-\n-"),
                           (read_tapes, ". | .\n1:0 | 1:0\n.")):
            first = read(text)
            kept = copy.deepcopy(first)
            for at, tape in enumerate(first):
                if isinstance(tape, list):
                    for run in tape:
                        run.append((9, 9))
                    tape.append([(8, 8)])
                    self.assertEqual(first[at + 1:], kept[at + 1:])
            first.append([])
            self.assertEqual(read(text), kept)


if __name__ == "__main__":
    unittest.main()
