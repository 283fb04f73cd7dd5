import copy
import random
import unittest

from tapepour.desk import Desk
from tapepour.errors import (Busy, Dry, NoDeed, NoNumber, NoPour, NoRow, NoText, Stuck, TapeError, TooMany)
from tapepour.evens import made_up
from tapepour.fewest import fewest_pours
from tapepour.notes import shown_load, shown_plan

# Words that are no numbers of one to nine figures.
NO_NUMBERS = ["x", "-", "+1", "--1", "01", "00", "-0", "-01", "1.0", "1e1", "1_0", "0x1", "1,2", "1:0", "1\n", "\n1",
              "\t1", "1-", "(1)", "None", "1000000000", "-1000000000", "0000000001", "9" * 60, "-" + "9" * 120,
              "2>1*1", ";"]

LAY = "lay 1 3 5 1 4 2"


def told_by(desk):
    return [desk.say(row) for row in ("tapes", "load", "cost", "log")]


class DeskTest(unittest.TestCase):
    def desk_with(self, *rows):
        desk = Desk()
        for row in rows:
            self.assertEqual(desk.say(row), [])
        return desk

    def refused(self, desk, row, kind, **fields):
        ahead = told_by(desk)
        with self.subTest(row), self.assertRaises(kind) as caught:
            desk.say(row)
        self.assertIs(type(caught.exception), kind, row)
        for name, value in fields.items():
            self.assertEqual(getattr(caught.exception, name), value)
        self.assertEqual(told_by(desk), ahead)

    def desks(self):
        """A bare desk, one with runs laid, one behind a phase, one with one run, and one of six tapes."""
        return [Desk(), self.desk_with(LAY), self.desk_with(LAY, "phase"), self.desk_with(LAY, "phase", "phase"),
                self.desk_with("hall 6", "lay 1 2 1")]


class HallRowTest(DeskTest):
    def test_three_tapes_at_first(self):
        self.assertEqual(told_by(Desk()), [["-", "-", "-"], ["0 0 0"], ["0"], []])

    def test_a_new_hall(self):
        for many in range(3, 7):
            desk = self.desk_with(LAY, "phase")
            self.assertEqual(desk.say(f"hall {many}"), [])
            self.assertEqual(told_by(desk), [["-"] * many, [" ".join(["0"] * many)], ["0"], []])
            self.refused(desk, "undo", NoDeed)
            self.assertEqual(desk.say(LAY), [])

    def test_other_numbers(self):
        for desk in self.desks():
            for word in ["2", "7", "0", "1", "-3", "-4", "10", "03", "3.0", "333333333", "999999999"] + NO_NUMBERS:
                self.refused(desk, f"hall {word}", NoNumber)

    def test_desks_are_apart(self):
        first, second = Desk(), Desk()
        first.say("hall 4")
        first.say(LAY)
        self.assertEqual(told_by(second), told_by(Desk()))


class LayRowTest(DeskTest):
    def test_keys_with_marks(self):
        desk = self.desk_with(LAY)
        self.assertEqual(told_by(desk), [["3:0 5:1 | 1:2 4:3", "2:4", "-"], ["2 1 0"], ["0"], [LAY]])

    def test_alike_and_negative_and_great_keys(self):
        desk = self.desk_with("lay 20 7 -999999999 7 999999999 0 -1 7")
        self.assertEqual(desk.say("tapes"), ["-999999999:1 -1:5 0:4 7:0 7:2 7:6 999999999:3", "-", "-"])

    def test_one_key(self):
        self.assertEqual(self.desk_with("lay 1 0").say("tapes"), ["0:0", "-", "-"])
        self.assertEqual(self.desk_with("hall 6", "lay 20 -5").say("tapes"), ["-5:0", "-", "-", "-", "-", "-"])

    def test_dummies(self):
        self.assertEqual(self.desk_with("hall 6", "lay 1 2 1").say("tapes"), [".", ".", ".", "2:0", "1:1", "-"])
        self.assertEqual(self.desk_with("hall 4", "lay 1 4 3 2 1").say("tapes"), [". | 4:0", "3:1 | 2:2", "1:3", "-"])

    def test_many_keys(self):
        keys = [str(key // 2) for key in range(4000)]
        row = "lay 3 " + " ".join(keys[:1800])
        self.assertLess(len(row), 9000)
        desk = self.desk_with(row)
        self.assertEqual(desk.say("load"), ["1 0 0"])
        self.assertEqual(desk.say("log"), [row])
        self.assertEqual(desk.say("take"), [" ".join(keys[:1800])])

    def test_too_many_runs(self):
        row = "lay 1 " + " ".join(str(-key) for key in range(200))
        for many in range(3, 7):
            load = shown_load(made_up(many, 200)[0])
            self.assertEqual(self.desk_with(f"hall {many}", row).say("load"), [load])
            self.refused(self.desk_with(f"hall {many}"), row + " -200", TooMany)

    def test_busy(self):
        for desk in self.desks()[1:]:
            self.refused(desk, "lay 1 5", Busy)
            self.refused(desk, "lay 1 " + " ".join(str(-key) for key in range(201)), Busy)

    def test_other_numbers(self):
        for desk in self.desks():
            for word in ["0", "21", "-1", "100", "999999999"] + NO_NUMBERS:
                self.refused(desk, f"lay {word} 5", NoNumber)
                self.refused(desk, f"lay {word} x", NoNumber)
            for word in NO_NUMBERS:
                self.refused(desk, f"lay 1 {word}", NoNumber)
                self.refused(desk, f"lay 1 5 {word} 4", NoNumber)
                self.refused(desk, f"lay 1 5 4 {word}", NoNumber)


class PourRowTest(DeskTest):
    def test_one_pour(self):
        desk = self.desk_with(LAY)
        self.assertEqual(desk.say("pour 0,1>2*1"), [])
        self.assertEqual(told_by(desk), [["1:2 4:3", "-", "2:4 3:0 5:1"], ["1 0 1"], ["3"], [LAY, "pour 0,1>2*1"]])
        self.assertEqual(desk.say("pour 2>0*1"), [])
        self.assertEqual(desk.say("tapes"), ["1:2 4:3 | 2:4 3:0 5:1", "-", "-"])
        self.assertEqual(desk.say("cost"), ["6"])

    def test_most_froms(self):
        desk = self.desk_with("hall 6", "lay 1 5 4 3 2 1", "pour 0,1,2,3,4>5*1")
        self.assertEqual(desk.say("tapes"), ["-"] * 5 + ["1:4 2:3 3:2 4:1 5:0"])

    def test_no_text(self):
        for desk in self.desks():
            for word in ("x", "0", "0>1", "0>1*", "0>1*0", "0>1*-1", "0>1*01", "00>1*1", "0>0*1", "1,0>2*1", "0,0>1*1",
                         "0,1>1*1", "6>0*1", "0>6*1", "0,1,2,3,4,5>6*1", "-1>0*1", "0>1*1;", "0>1*1;0>1*1", "0>1*1\n",
                         "0,>1*1", ">1*1", "0>1*1*1", "+0>1*1", "((0,),1,1)", "0>1*1.", "-", ";", "none"):
                self.refused(desk, f"pour {word}", NoText)

    def test_of_a_tape_that_the_hall_has_not(self):
        desk = self.desk_with(LAY)
        for word in ("3>0*1", "0>3*1", "0,3>1*1", "0>5*1", "5>4*1", "0,1,2,3,4>5*1", "0>3*" + "9" * 120):
            self.refused(desk, f"pour {word}", NoPour, at=0)
        self.refused(Desk(), "pour 3>0*1", NoPour, at=0)
        for many in range(3, 6):
            self.refused(self.desk_with(f"hall {many}", "lay 1 5"), f"pour 0>{many}*1", NoPour, at=0)

    def test_dry(self):
        desk = self.desk_with(LAY)
        for word in ("2>0*1", "0,1>2*2", "0>1*3", "0>1*10", "0>1*1000000000", "0>1*" + "9" * 60, "0>1*" + "9" * 120):
            self.refused(desk, f"pour {word}", Dry, at=0)
        self.refused(Desk(), "pour 0>1*1", Dry, at=0)


class DeedRowsTest(DeskTest):
    def test_phases_and_take(self):
        desk = self.desk_with(LAY, "phase")
        self.assertEqual(desk.say("tapes"), ["1:2 4:3", "-", "2:4 3:0 5:1"])
        self.assertEqual(desk.say("phase"), [])
        self.assertEqual(desk.say("tapes"), ["-", "1:2 2:4 3:0 4:3 5:1", "-"])
        self.assertEqual(desk.say("cost"), ["8"])
        self.assertEqual(desk.say("take"), ["1 2 3 4 5"])
        self.assertEqual(told_by(desk), [["-", "-", "-"], ["0 0 0"], ["8"], [LAY, "phase", "phase", "take"]])

    def test_stuck(self):
        self.refused(Desk(), "phase", Stuck, at=0, load=(0, 0, 0))
        self.refused(self.desk_with("lay 1 5"), "phase", Stuck, at=0, load=(1, 0, 0))
        self.refused(self.desk_with(LAY, "pour 0>2*1"), "phase", Stuck, at=0, load=(1, 1, 1))

    def test_take_of_the_tape_that_has_runs(self):
        for many in range(3, 7):
            for tape in range(1, many):
                desk = self.desk_with(f"hall {many}", "lay 2 8 -7 8", f"pour 0>{tape}*1")
                self.assertEqual(desk.say("take"), ["-7 8 8"])
                self.assertEqual(desk.say("load"), [" ".join(["0"] * many)])
                desk.say("undo")
                self.assertEqual(desk.say("tapes")[tape], "-7:1 8:0 8:2")

    def test_take_is_busy(self):
        self.refused(Desk(), "take", Busy)
        self.refused(self.desk_with(LAY), "take", Busy)
        self.refused(self.desk_with(LAY, "phase"), "take", Busy)
        self.refused(self.desk_with(LAY, "pour 1>0*1"), "take", Busy)
        self.refused(self.desk_with(LAY, "pour 0>1*2", "pour 1>2*3"), "take", Busy)
        self.refused(self.desk_with("hall 4", "lay 1 2 1", "pour 1,2>3*1"), "take", Busy)

    def test_undo(self):
        desk = Desk()
        ahead = []
        for row in (LAY, "pour 0>2*1", "pour 2>0*1", "phase", "pour 0>1*1", "pour 1,2>0*1"):
            ahead.append(told_by(desk))
            desk.say(row)
        ahead.append(told_by(desk))
        self.assertEqual(desk.say("take"), ["1 2 3 4 5"])
        for told in reversed(ahead):
            self.assertEqual(desk.say("undo"), [])
            self.assertEqual(told_by(desk), told)
        self.refused(desk, "undo", NoDeed)

    def test_log(self):
        rows = ["lay 2 5 -5 5 0", "pour 0>2*1", "pour 2>1*1", "undo", "undo", "take"]
        desk = self.desk_with("hall 3", *rows[:-1])
        self.assertEqual(desk.say("log"), rows[:1])
        desk = self.desk_with("hall 5", "lay 20 1 0", "pour 0>4*1")
        desk.say("take")
        for row in ("lay 1 999999999 -999999999", "phase"):
            desk.say(row)
        self.assertEqual(desk.say("log"), ["lay 20 1 0", "pour 0>4*1", "take", "lay 1 999999999 -999999999", "phase"])

    def test_the_log_said_again_leads_to_the_same(self):
        desk = self.desk_with("hall 4", "lay 2 9 3 7 1 8 2 6 0 5 4 -3", "pour 0>3*1", "pour 3>0*1")
        for step in range(6):
            again = self.desk_with("hall 4", *desk.say("log"))
            self.assertEqual(told_by(again), told_by(desk))
            try:
                desk.say("phase")
            except Stuck:
                break


class ReckonRowsTest(DeskTest):
    def test_even(self):
        for row, phases in (("2 1 0", 2), ("1 0 0", 0), ("0 0 1", 0), ("0 1 1 1", 1), ("0 0 0 0 0 1", 0),
                            ("1 1 1 1 1 0", 1), ("1000 1 0", 1000), ("17 17 13 5 0", 6), ("433494437 267914296 0", 42)):
            self.assertEqual(Desk().say(f"even {row}"), [str(phases)])

    def test_even_is_stuck(self):
        for row, at, load in (("2 2 0", 1, (0, 0, 2)), ("0 0 0", 0, (0, 0, 0)), ("1 1 1", 0, (1, 1, 1)),
                              ("4 2 0", 2, (0, 2, 0)), ("999999999 999999999 0", 1, (0, 0, 999999999)),
                              ("0 0 0 0 0 2", 0, (0, 0, 0, 0, 0, 2))):
            self.refused(Desk(), f"even {row}", Stuck, at=at, load=load)

    def test_even_too_many(self):
        self.refused(Desk(), "even 1001 1 0", TooMany)
        self.refused(Desk(), "even 999999999 1 0", TooMany)

    def test_even_other_numbers(self):
        for word in ["-1", "-999999999"] + NO_NUMBERS:
            for row in (f"{word} 1 0", f"1 {word} 0", f"1 0 {word}", f"1 0 0 0 0 {word}", f"{word} 2 2"):
                self.refused(Desk(), f"even {row}", NoNumber)

    def test_makeup(self):
        self.assertEqual(Desk().say("makeup 5 50"), ["17 17 13 5 0 / 2 / 6"])
        self.assertEqual(Desk().say("makeup 3 1"), ["1 0 0 / 0 / 0"])
        self.assertEqual(Desk().say("makeup 6 2"), ["1 1 1 1 1 0 / 3 / 1"])
        for many in range(3, 7):
            for runs in (1, 2, 3, 99, 199, 200):
                load, dummies, phases = made_up(many, runs)
                self.assertEqual(Desk().say(f"makeup {many} {runs}"), [f"{shown_load(load)} / {dummies} / {phases}"])

    def test_makeup_other_numbers(self):
        for word in ["2", "7", "0", "-3"] + NO_NUMBERS:
            self.refused(Desk(), f"makeup {word} 5", NoNumber)
            self.refused(Desk(), f"makeup {word} 0", NoNumber)
        for word in ["0", "201", "-1", "999999999"] + NO_NUMBERS:
            self.refused(Desk(), f"makeup 3 {word}", NoNumber)
            self.refused(Desk(), f"makeup 6 {word}", NoNumber)

    def test_fewest(self):
        for row, text in (("2 1 1 1 0", "0,1,2>3*1"), ("1 2 2 0", "none"), ("0 1 0 0", ""), ("5 0 0 1", ""),
                          ("0 1 1 0", "none"), ("5 1 1 0", "0,1>2*1"), ("5 2 1 0", "0,1>2*1; 0,2>1*1"),
                          ("1 1 1 1 1 1 0", "0,1,2,3,4>5*1"), ("5 40 0 0", "none")):
            self.assertEqual(Desk().say(f"fewest {row}"), [text], row)
        for load in ((3, 2, 0), (2, 2, 1, 0), (4, 0, 1), (13, 8, 0), (1, 1, 1, 1, 0, 0)):
            plan = fewest_pours(load, 3)
            self.assertEqual(Desk().say(f"fewest 3 {shown_load(load)}"), ["none" if plan is None else shown_plan(plan)])

    def test_fewest_too_many(self):
        with self.assertRaises(TooMany):
            fewest_pours((7, 7, 7, 7, 7, 5), 5)
        self.refused(Desk(), "fewest 5 7 7 7 7 7 5", TooMany)

    def test_fewest_other_numbers(self):
        for word in ["-1", "6", "999999999"] + NO_NUMBERS:
            self.refused(Desk(), f"fewest {word} 1 1 0", NoNumber)
            self.refused(Desk(), f"fewest {word} 0 0 0", NoNumber)
        for word in ["-1", "39", "41", "999999999"] + NO_NUMBERS:
            for row in (f"{word} 1 1", f"1 {word} 1", f"1 1 {word}", f"1 1 0 0 0 {word}"):
                self.refused(Desk(), f"fewest 2 {row}", NoNumber)
        self.refused(Desk(), "fewest 0 0 0 0", NoNumber)
        self.refused(Desk(), "fewest 5 0 0 0 0 0 0", NoNumber)
        self.refused(Desk(), "fewest 5 41 0 0", NoNumber)
        self.refused(Desk(), "fewest 5 7 7 7 7 7 6", NoNumber)
        self.refused(Desk(), "fewest 1 40 -1 1", NoNumber)

    def test_they_leave_the_hall_alone(self):
        for desk in self.desks():
            ahead = told_by(desk)
            for row in ("even 2 1 0", "makeup 4 9", "fewest 2 1 1 0"):
                desk.say(row)
                self.assertEqual(told_by(desk), ahead)


class NoRowTest(DeskTest):
    def test_no_rows(self):
        rows = ["", " ", "  ", "x", "Hall 3", "HALL 3", "halls 3", "hal 3", "done_again", "do", "-", "\n", "phase\n",
                "\nphase", "phase\tphase", "even\t2 1 0", "lay\n1 5", "none", "0,1>2*1", "2 1 0", "__init__", "say",
                "quit x"]
        # A word too few or too many, other things being right or wrong.
        rows += ["hall", "hall 3 3", "hall x 3", "hall 9 9", "lay", "lay 1", "lay 0", "lay x", "pour", "pour 0>1*1 x",
                 "pour x x", "pour 0>1*1; 1>2*1", "pour 0>1 *1", "phase 1", "phase phase", "take 0", "take x", "undo 1",
                 "undo x", "tapes 0", "load 1", "cost x", "log 1", "even", "even 1", "even 1 0", "even x x",
                 "even 1 0 0 0 0 0 0", "even x 0 0 0 0 0 0", "makeup", "makeup 3", "makeup x", "makeup 3 5 5",
                 "makeup x 5 5", "fewest", "fewest 1", "fewest 1 1", "fewest 1 1 0", "fewest 9 x 0",
                 "fewest 1 1 0 0 0 0 0 0", "fewest x 1 0 0 0 0 0 0"]
        for desk in self.desks():
            for row in rows:
                self.refused(desk, row, NoRow)

    def test_a_word_without_signs(self):
        for desk in self.desks():
            for row in ("hall 3", "lay 1 5", "lay 0 x", "pour 0>1*1", "pour x", "phase", "take", "undo", "tapes",
                        "load", "cost", "log", "even 2 1 0", "even x 1 0", "makeup 3 5", "makeup 9 999",
                        "fewest 1 1 1 0", "x"):
                for wrong in (" " + row, row + " ", row.replace(" ", "  ") if " " in row else row + "  "):
                    self.refused(desk, wrong, NoRow)
            for row in ("hall ", "pour ", "lay  ", "lay 1 ", "lay  5", "even  1 0", "makeup 3 ", "fewest  1 1 0"):
                self.refused(desk, row, NoRow)

    def test_number_ahead_of_what_the_stages_tell(self):
        busy = self.desk_with(LAY)
        self.refused(busy, "lay 0 5", NoNumber)
        self.refused(busy, "lay 1 05", NoNumber)
        self.refused(busy, "lay 21 " + " ".join(str(-key) for key in range(201)), NoNumber)
        self.refused(Desk(), "even 2 2 -1", NoNumber)
        self.refused(Desk(), "fewest 6 7 7 7 7 7 5", NoNumber)


class OwnTest(DeskTest):
    def test_told_is_the_askers_own(self):
        desk = self.desk_with(LAY, "phase")
        rows = ("tapes", "load", "cost", "log", "even 2 1 0", "makeup 3 5", "fewest 2 1 1 0")
        kept = [copy.deepcopy(desk.say(row)) for row in rows]
        for row in rows:
            told = desk.say(row)
            told.append("more")
            told[0] = "other"
        self.assertEqual([desk.say(row) for row in rows], kept)
        for row in ("phase", "undo"):
            desk.say(row).append("more")
            self.assertEqual(desk.say("undo" if row == "phase" else "phase"), [])

    def test_nothing_said_later_changes_the_told(self):
        desk = self.desk_with(LAY)
        told = told_by(desk)
        kept = copy.deepcopy(told)
        for row in ("phase", "phase", "take", "undo", "hall 5"):
            desk.say(row)
        self.assertEqual(told, kept)

    def test_kinds(self):
        desk = Desk()
        for row in ("hall 4", "lay 2 3 1 2 0", "tapes", "load", "cost", "log", "phase", "undo", "even 2 1 0",
                    "makeup 4 3", "fewest 1 1 0 0", "fewest 1 2 2 0"):
            told = desk.say(row)
            self.assertIs(type(told), list)
            self.assertTrue(all(type(text) is str for text in told))


class AnyRowsTest(DeskTest):
    def test_any_rows(self):
        """Whatever is said, a refusal is one of the program's and changes nothing."""
        source = random.Random(25)
        words = ["hall", "lay", "pour", "phase", "take", "undo", "tapes", "load", "cost", "log", "even", "makeup",
                 "fewest"]
        others = ["0", "1", "2", "3", "4", "-1", "5", "01", "0>1*1", "0,1>2*1", "1,2>0*1", "0,3>5*1", "x", ""]
        kinds = set()
        for case in range(30):
            desk = Desk()
            for step in range(150):
                row = " ".join([source.choice(words)] + source.choices(others, k=source.choice([0, 0, 1, 2, 3, 4, 5])))
                ahead = told_by(desk)
                try:
                    told = desk.say(row)
                except TapeError as refusal:
                    kinds.add(type(refusal))
                    self.assertEqual(told_by(desk), ahead)
                else:
                    self.assertTrue(all(isinstance(text, str) for text in told))
        self.assertLessEqual({NoRow, NoNumber, NoText, NoPour, Dry, Stuck, Busy, NoDeed}, kinds)


if __name__ == "__main__":
    unittest.main()
