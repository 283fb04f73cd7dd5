import copy
import random
import unittest

from tapepour.errors import Busy, Dry, NoDeed, NoItems, NoNumber, NoPour, Stuck, TapeError, TooMany
from tapepour.evens import made_up
from tapepour.hall import Hall
from tapepour.lengths import cost_of, lengths_of
from tapepour.loads import behind_phase, phases_of
from tapepour.plans import done_on, plan_of
from tapepour.store import made_runs

GREAT = 10 ** 60 - 1

# Items that a store of one place makes these three runs of.
ITEMS = [(3, 0), (5, 1), (1, 2), (4, 3), (2, 4)]
RUNS = [[(3, 0), (5, 1)], [(1, 2), (4, 3)], [(2, 4)]]


def falling_items(many):
    """So many items of which a store of one place makes a run each."""
    return [(-key, key) for key in range(many)]


def told_by(hall):
    return hall.tapes_now(), hall.load_now(), hall.cost_now(), hall.log_now()


def dummies_by_turns(load, dummies):
    """How many dummies fall to each tape, dummy by dummy."""
    fallen = [0] * len(load)
    tape = 0
    while dummies:
        if fallen[tape] < load[tape]:
            fallen[tape] += 1
            dummies -= 1
        tape = (tape + 1) % len(load)
    return fallen


class HallTest(unittest.TestCase):
    def refused(self, hall, deed, kind, **fields):
        ahead = told_by(hall)
        kept = copy.deepcopy(deed)
        with self.assertRaises(kind) as caught:
            hall.do(deed)
        self.assertIs(type(caught.exception), kind)
        for name, value in fields.items():
            self.assertEqual(getattr(caught.exception, name), value)
        self.assertEqual(told_by(hall), ahead)
        self.assertEqual(deed, kept)

    def hall_with(self, many, *deeds):
        hall = Hall(many)
        for deed in deeds:
            hall.do(deed)
        return hall


class BareHallTest(HallTest):
    def test_bare_at_first(self):
        for many in range(3, 7):
            self.assertEqual(told_by(Hall(many)), ([[]] * many, (0,) * many, 0, []))

    def test_nothing_but_lay_can_be_done(self):
        for many in range(3, 7):
            hall = Hall(many)
            self.refused(hall, ("phase",), Stuck, at=0, load=(0,) * many)
            self.refused(hall, ("pour", ((0,), 1, 1)), Dry, at=0)
            self.refused(hall, ("take", 0), Busy)
            with self.assertRaises(NoDeed):
                hall.undo()

    def test_halls_are_apart(self):
        first, second = Hall(3), Hall(3)
        first.do(("lay", ITEMS, 1))
        self.assertEqual(told_by(second), ([[], [], []], (0, 0, 0), 0, []))


class LayTest(HallTest):
    def test_runs_in_their_order(self):
        hall = Hall(3)
        self.assertIsNone(hall.do(("lay", ITEMS, 1)))
        self.assertEqual(hall.tapes_now(), [RUNS[:2], RUNS[2:], []])
        self.assertEqual(hall.load_now(), (2, 1, 0))
        self.assertEqual(hall.cost_now(), 0)
        self.assertEqual(hall.log_now(), [("lay", ITEMS, 1)])

    def test_runs_are_made_with_the_store(self):
        self.assertEqual(self.hall_with(3, ("lay", ITEMS, 2)).tapes_now(),
                         [[[(3, 0), (5, 1)]], [[(1, 2), (2, 4), (4, 3)]], []])
        self.assertEqual(self.hall_with(3, ("lay", ITEMS, 5)).tapes_now(), [[sorted(ITEMS)], [], []])
        self.assertEqual(self.hall_with(3, ("lay", ITEMS, 20)).tapes_now(), [[sorted(ITEMS)], [], []])

    def test_one_item(self):
        for many in range(3, 7):
            hall = self.hall_with(many, ("lay", [(GREAT, -GREAT)], 1))
            self.assertEqual(hall.tapes_now(), [[[(GREAT, -GREAT)]]] + [[]] * (many - 1))

    def test_dummies_one_to_each_tape_ahead_of_its_runs(self):
        # Two runs on six tapes lack three to five: the tapes 0 to 2 have a dummy each.
        hall = self.hall_with(6, ("lay", [(2, 0), (1, 1)], 1))
        self.assertEqual(hall.tapes_now(), [[[]], [[]], [[]], [[(2, 0)]], [[(1, 1)]], []])
        # Six runs on six tapes lack three to nine, laid as 2 2 2 2 1.
        a, b, c, d, e, f = [[item] for item in falling_items(6)]
        hall = self.hall_with(6, ("lay", falling_items(6), 1))
        self.assertEqual(hall.tapes_now(), [[[], a], [[], b], [[], c], [d, e], [f], []])
        # Four runs on four tapes lack one to five, laid as 2 2 1.
        hall = self.hall_with(4, ("lay", falling_items(4), 1))
        self.assertEqual(hall.tapes_now(), [[[], a], [b, c], [d], []])

    def test_all_numbers_of_runs(self):
        for many in range(3, 7):
            for count in list(range(1, 40)) + [99, 100, 198, 199, 200]:
                items = falling_items(count)
                hall = self.hall_with(many, ("lay", items, 1))
                load, dummies, phases = made_up(many, count)
                rest = [[item] for item in items]
                expected = []
                for number, fallen in zip(load, dummies_by_turns(load, dummies)):
                    expected.append([[]] * fallen + rest[:number - fallen])
                    rest = rest[number - fallen:]
                self.assertEqual(rest, [])
                self.assertEqual(hall.tapes_now(), expected)
                self.assertEqual(hall.load_now(), load)

    def test_four_hundred_items(self):
        items = [(key, 0) for key in range(400)]
        self.assertEqual(self.hall_with(3, ("lay", items, 1)).tapes_now(), [[items], [], []])
        items = [(-(key // 2), key % 2) for key in range(400)]
        hall = self.hall_with(3, ("lay", items, 1))
        self.assertEqual(sum(hall.load_now()), 200)

    def test_two_hundred_runs_are_the_most(self):
        for many in range(3, 7):
            self.assertGreaterEqual(sum(self.hall_with(many, ("lay", falling_items(200), 1)).load_now()), 200)
            self.refused(Hall(many), ("lay", falling_items(201), 1), TooMany)
            self.refused(Hall(many), ("lay", falling_items(400), 1), TooMany)
            self.assertEqual(sum(self.hall_with(many, ("lay", falling_items(400), 20)).load_now()),
                             sum(made_up(many, 20)[0]))

    def test_stores(self):
        for store in (0, -1, 21, 22, GREAT, -GREAT):
            self.refused(Hall(3), ("lay", ITEMS, store), NoNumber)
        for store in range(1, 21):
            hall = self.hall_with(3, ("lay", falling_items(60), store))
            self.assertEqual([run for tape in hall.tapes_now() for run in tape if run],
                             made_runs(falling_items(60), store))

    def test_no_items(self):
        self.refused(Hall(3), ("lay", [], 1), NoItems)

    def test_busy(self):
        hall = self.hall_with(3, ("lay", ITEMS, 1))
        self.refused(hall, ("lay", ITEMS, 1), Busy)
        hall.do(("phase",))
        self.refused(hall, ("lay", ITEMS, 1), Busy)
        hall.do(("phase",))
        self.assertEqual(sum(hall.load_now()), 1)
        self.refused(hall, ("lay", ITEMS, 1), Busy)
        hall.do(("take", 1))
        hall.do(("lay", ITEMS, 1))
        self.assertEqual(hall.load_now(), (2, 1, 0))

    def test_busy_with_dummies_alone_on_the_first_tapes(self):
        hall = self.hall_with(6, ("lay", [(2, 0), (1, 1)], 1), ("pour", ((0, 3, 4), 5, 1)))
        self.refused(hall, ("lay", ITEMS, 1), Busy)

    def test_which_is_due_first(self):
        busy = self.hall_with(3, ("lay", ITEMS, 1))
        for items in (ITEMS, [], falling_items(300)):
            for store in (0, 1, 21):
                self.refused(busy, ("lay", items, store), Busy)
        for store in (0, 1, 21):
            self.refused(Hall(3), ("lay", [], store), NoItems)
        for store in (0, 21):
            self.refused(Hall(3), ("lay", falling_items(300), store), NoNumber)


class PourTest(HallTest):
    def test_one_pour(self):
        hall = self.hall_with(3, ("lay", ITEMS, 1))
        self.assertIsNone(hall.do(("pour", ((0, 1), 2, 1))))
        self.assertEqual(hall.tapes_now(), [RUNS[1:2], [], [[(2, 4), (3, 0), (5, 1)]]])
        self.assertEqual(hall.cost_now(), 3)
        self.assertIsNone(hall.do(("pour", ((0,), 1, 1))))
        self.assertEqual(hall.tapes_now(), [[], RUNS[1:2], [[(2, 4), (3, 0), (5, 1)]]])
        self.assertEqual(hall.cost_now(), 5)
        self.assertEqual(hall.log_now(), [("lay", ITEMS, 1), ("pour", ((0, 1), 2, 1)), ("pour", ((0,), 1, 1))])

    def test_first_runs_so_often(self):
        hall = self.hall_with(3, ("lay", ITEMS, 1), ("pour", ((0,), 2, 2)))
        self.assertEqual(hall.tapes_now(), [[], RUNS[2:], RUNS[:2]])
        self.assertEqual(hall.cost_now(), 4)

    def test_dummies_cost_nothing(self):
        hall = self.hall_with(6, ("lay", [(2, 0), (1, 1)], 1), ("pour", ((0, 1), 5, 1)))
        self.assertEqual(hall.tapes_now(), [[], [], [[]], [[(2, 0)]], [[(1, 1)]], [[]]])
        self.assertEqual(hall.cost_now(), 0)

    def test_most_froms(self):
        hall = self.hall_with(6, ("lay", falling_items(5), 1), ("pour", ((0, 1, 2, 3, 4), 5, 1)))
        self.assertEqual(hall.tapes_now(), [[]] * 5 + [[sorted(falling_items(5))]])
        self.assertEqual(hall.cost_now(), 5)

    def test_dry(self):
        hall = self.hall_with(3, ("lay", ITEMS, 1))
        for pour in (((2,), 0, 1), ((0, 1), 2, 2), ((0,), 2, 3), ((0, 2), 1, 1), ((0,), 1, GREAT)):
            self.refused(hall, ("pour", pour), Dry, at=0)
        hall.do(("phase",))
        self.refused(hall, ("pour", ((1,), 0, 1)), Dry, at=0)

    def test_no_pour(self):
        hall = self.hall_with(3, ("lay", ITEMS, 1))
        for pour in ((), (0,), ((0,), 1), ((0,), 1, 1, 1), (0, 1, 1), ((), 1, 1), ((0, 0), 1, 1), ((1, 0), 2, 1),
                     ((0,), 0, 1), ((0, 1), 1, 1), ((3,), 0, 1), ((0,), 3, 1), ((-1,), 0, 1), ((0,), -1, 1),
                     ((0,), 1, 0), ((0,), 1, -1), (((0,),), 1, 1), ((0,), (1,), 1), ((0, 1, 2, 3, 4), 5, 1),
                     ((0,), 3, GREAT), ((2,), 2, 1)):
            with self.subTest(pour):
                self.refused(hall, ("pour", pour), NoPour, at=0)

    def test_pours_by_the_halls_own_number_of_tapes(self):
        for many in range(3, 7):
            hall = self.hall_with(many, ("lay", ITEMS[:1], 1))
            self.refused(hall, ("pour", ((0,), many, 1)), NoPour, at=0)
            hall.do(("pour", ((0,), many - 1, 1)))
            self.assertEqual(hall.tapes_now(), [[]] * (many - 1) + [[ITEMS[:1]]])


class PhaseTest(HallTest):
    def test_one_phase(self):
        hall = self.hall_with(3, ("lay", ITEMS, 1))
        self.assertIsNone(hall.do(("phase",)))
        self.assertEqual(hall.tapes_now(), [RUNS[1:2], [], [[(2, 4), (3, 0), (5, 1)]]])
        self.assertEqual(hall.cost_now(), 3)
        hall.do(("phase",))
        self.assertEqual(hall.tapes_now(), [[], [sorted(ITEMS)], []])
        self.assertEqual(hall.cost_now(), 8)
        self.assertEqual(hall.log_now(), [("lay", ITEMS, 1), ("phase",), ("phase",)])

    def test_a_phase_of_several_pours(self):
        hall = self.hall_with(3, ("lay", falling_items(5), 1), ("phase",))
        self.assertEqual(hall.load_now(), (1, 0, 2))
        self.assertEqual(hall.tapes_now()[2], [[(-3, 3), (0, 0)], [(-4, 4), (-1, 1)]])

    def test_phases_as_the_plan_of_the_load(self):
        for many in range(3, 7):
            for count in (2, 7, 30, 200):
                hall = self.hall_with(many, ("lay", falling_items(count), 1))
                tapes, load = hall.tapes_now(), hall.load_now()
                for at, behind in enumerate(phases_of(load)):
                    hall.do(("phase",))
                    self.assertEqual(hall.load_now(), behind)
                    self.assertEqual(hall.tapes_now(), done_on(tapes, plan_of(load)[:at + 1]))
                    self.assertEqual(hall.cost_now(), cost_of(lengths_of(tapes), plan_of(load)[:at + 1]))

    def test_stuck(self):
        hall = self.hall_with(3, ("lay", ITEMS, 1), ("pour", ((0,), 2, 1)))
        self.refused(hall, ("phase",), Stuck, at=0, load=(1, 1, 1))
        hall = self.hall_with(4, ("lay", falling_items(5), 1), ("pour", ((0, 1), 3, 2)))
        self.refused(hall, ("phase",), Stuck, at=0, load=(0, 0, 1, 2))

    def test_stuck_at_one_run(self):
        for many in range(3, 7):
            hall = self.hall_with(many, ("lay", ITEMS[:1], 1))
            self.refused(hall, ("phase",), Stuck, at=0, load=(1,) + (0,) * (many - 1))

    def test_behind_pours(self):
        hall = self.hall_with(3, ("lay", falling_items(5), 1), ("pour", ((0,), 2, 3)))
        self.assertEqual(hall.load_now(), (0, 2, 3))
        hall.do(("phase",))
        self.assertEqual(hall.load_now(), behind_phase((0, 2, 3)))


class TakeTest(HallTest):
    def test_takes_the_items_in_order(self):
        hall = self.hall_with(3, ("lay", ITEMS, 1), ("phase",), ("phase",))
        self.assertEqual(hall.do(("take", 1)), sorted(ITEMS))
        self.assertEqual(hall.tapes_now(), [[], [], []])
        self.assertEqual(hall.cost_now(), 8)
        self.assertEqual(hall.log_now()[-1], ("take", 1))
        self.refused(hall, ("take", 1), Busy)

    def test_busy(self):
        hall = self.hall_with(3, ("lay", ITEMS, 1))
        tapes = (0, 1, 2, 3, -1, -2, -3, GREAT, -GREAT)
        for tape in tapes:
            self.refused(hall, ("take", tape), Busy)
        hall.do(("phase",))
        for tape in tapes:
            self.refused(hall, ("take", tape), Busy)
        hall.do(("phase",))
        for tape in tapes:
            if tape != 1:
                self.refused(hall, ("take", tape), Busy)
        self.assertEqual(hall.do(("take", 1)), sorted(ITEMS))

    def test_several_runs_on_one_tape(self):
        hall = self.hall_with(3, ("lay", ITEMS, 1), ("pour", ((1,), 0, 1)))
        self.assertEqual(hall.load_now(), (3, 0, 0))
        self.refused(hall, ("take", 0), Busy)

    def test_the_last_tape_is_no_tape_below_nought(self):
        for many in range(3, 7):
            hall = self.hall_with(many, ("lay", ITEMS[:1], 1), ("pour", ((0,), many - 1, 1)))
            self.refused(hall, ("take", -1), Busy)
            self.refused(hall, ("take", many), Busy)
            self.assertEqual(hall.do(("take", many - 1)), ITEMS[:1])

    def test_a_dummy_beside_the_run(self):
        hall = self.hall_with(4, ("lay", falling_items(2), 1), ("pour", ((1, 2), 3, 1)))
        self.assertEqual(hall.tapes_now(), [[[]], [], [], [sorted(falling_items(2))]])
        self.refused(hall, ("take", 3), Busy)


class NoDeedTest(HallTest):
    def wrong_deeds(self):
        class Odd:
            def __eq__(self, other):
                return True
            __hash__ = None

        firsts = [None, 0, 1, True, -1, GREAT, "", "Lay", "lay ", " lay", "LAY", "undo", "phases", "p", b"lay", [],
                  ["lay"], {}, {"lay": 3}, {"lay"}, (), ("lay",), ("phase",), 1.5, Odd(), object(), Hall, Hall(3)]
        rests = [(), (ITEMS, 1), (((0,), 1, 1),), (0,), (0, 1, 2)]
        deeds = [()] + [(first,) + rest for first in firsts for rest in rests]
        deeds += [("lay",), ("lay", ITEMS), ("lay", ITEMS, 1, 1), ("lay", [], 0, None), ("lay", 1), ("lay",) + (1,) * 9]
        deeds += [("pour",), ("pour", ((0,), 1, 1), 1), ("pour", (0,), 1, 1), ("pour", (), ())]
        deeds += [("phase", 1), ("phase", None), ("phase", ()), ("phase", "phase")]
        deeds += [("take",), ("take", 0, 1), ("take", 9, 9), ("take", None, None)]
        return deeds

    def test_no_deed_ahead_of_all_else(self):
        halls = [Hall(3), self.hall_with(3, ("lay", ITEMS, 1)), self.hall_with(6, ("lay", ITEMS[:1], 1))]
        for deed in self.wrong_deeds():
            for hall in halls:
                with self.subTest(deed):
                    ahead = told_by(hall)
                    with self.assertRaises(NoDeed) as caught:
                        hall.do(deed)
                    self.assertIs(type(caught.exception), NoDeed)
                    self.assertEqual(told_by(hall), ahead)


class UndoTest(HallTest):
    def test_each_deed_undone(self):
        hall = Hall(4)
        deeds = [("lay", falling_items(4), 1), ("pour", ((1,), 3, 1)), ("pour", ((3,), 1, 1)),
                 ("pour", ((0, 1, 2), 3, 1)), ("phase",)]
        ahead = []
        for deed in deeds:
            ahead.append(told_by(hall))
            hall.do(deed)
        ahead.append(told_by(hall))
        tape = hall.load_now().index(1)
        self.assertEqual(hall.do(("take", tape)), sorted(falling_items(4)))
        for told in reversed(ahead):
            self.assertIsNone(hall.undo())
            self.assertEqual(told_by(hall), told)
        with self.assertRaises(NoDeed) as caught:
            hall.undo()
        self.assertIs(type(caught.exception), NoDeed)
        self.assertEqual(told_by(hall), told_by(Hall(4)))

    def test_what_is_refused_is_not_undone(self):
        hall = self.hall_with(3, ("lay", ITEMS, 1), ("phase",))
        self.refused(hall, ("lay", ITEMS, 1), Busy)
        self.refused(hall, ("pour", ((1,), 0, 1)), Dry)
        hall.undo()
        self.assertEqual(told_by(hall), ([RUNS[:2], RUNS[2:], []], (2, 1, 0), 0, [("lay", ITEMS, 1)]))

    def test_done_anew_behind_undo(self):
        hall = self.hall_with(3, ("lay", ITEMS, 1), ("phase",), ("phase",))
        hall.undo()
        hall.do(("pour", ((0, 2), 1, 1)))
        self.assertEqual(hall.tapes_now(), [[], [sorted(ITEMS)], []])
        self.assertEqual(hall.cost_now(), 8)
        self.assertEqual(hall.log_now(), [("lay", ITEMS, 1), ("phase",), ("pour", ((0, 2), 1, 1))])
        hall.undo()
        hall.undo()
        self.assertEqual(hall.log_now(), [("lay", ITEMS, 1)])
        self.assertEqual(hall.cost_now(), 0)

    def test_undo_of_take_brings_the_run_back(self):
        hall = self.hall_with(3, ("lay", ITEMS, 5))
        taken = hall.do(("take", 0))
        taken.clear()
        hall.undo()
        self.assertEqual(hall.tapes_now(), [[sorted(ITEMS)], [], []])
        self.assertEqual(hall.do(("take", 0)), sorted(ITEMS))

    def test_cost_goes_on_behind_take(self):
        hall = self.hall_with(3, ("lay", ITEMS, 1), ("phase",), ("phase",), ("take", 1), ("lay", ITEMS[:1], 1),
                              ("pour", ((0,), 1, 1)))
        self.assertEqual(hall.cost_now(), 9)
        for cost in (8, 8, 8, 3, 0, 0):
            hall.undo()
            self.assertEqual(hall.cost_now(), cost)


class DoneAgainTest(HallTest):
    def test_the_same_is_told(self):
        for many in range(3, 7):
            hall = self.hall_with(many, ("lay", ITEMS, 1), ("pour", ((0,), many - 1, 1)), ("pour", ((many - 1,), 0, 1)))
            self.assertEqual(told_by(hall.done_again()), told_by(hall))
            hall.undo()
            self.assertEqual(told_by(hall.done_again()), told_by(hall))
            self.assertIsInstance(hall.done_again(), Hall)

    def test_of_no_deeds(self):
        for many in range(3, 7):
            self.assertEqual(told_by(Hall(many).done_again()), told_by(Hall(many)))

    def test_a_new_hall(self):
        hall = self.hall_with(3, ("lay", ITEMS, 1), ("phase",))
        ahead = told_by(hall)
        again = hall.done_again()
        self.assertIsNot(again, hall)
        again.do(("phase",))
        again.do(("take", 1))
        self.assertEqual(told_by(hall), ahead)
        hall.undo()
        self.assertEqual(again.load_now(), (0, 0, 0))
        for deed in range(4):
            again.undo()
        self.assertEqual(told_by(again), told_by(Hall(3)))

    def test_behind_take_and_lay_anew(self):
        hall = self.hall_with(3, ("lay", ITEMS, 1), ("phase",), ("phase",), ("take", 1), ("lay", ITEMS, 2), ("phase",))
        self.assertEqual(told_by(hall.done_again()), told_by(hall))


class OwnTest(HallTest):
    def test_handed_in_stays(self):
        items = list(ITEMS)
        deed = ("lay", items, 2)
        hall = self.hall_with(3, deed, ("phase",))
        hall.undo()
        self.assertEqual(items, ITEMS)
        self.assertEqual(deed, ("lay", ITEMS, 2))

    def test_what_is_done_to_the_handed_in_changes_nothing(self):
        items = list(ITEMS)
        hall = self.hall_with(3, ("lay", items, 1))
        ahead = copy.deepcopy(told_by(hall))
        items.clear()
        self.assertEqual(told_by(hall), ahead)
        self.assertEqual(told_by(hall.done_again()), ahead)

    def test_what_is_done_to_the_told_changes_nothing(self):
        hall = self.hall_with(4, ("lay", falling_items(4), 1), ("pour", ((0,), 3, 1)))
        ahead = copy.deepcopy(told_by(hall))
        tapes = hall.tapes_now()
        for tape in tapes:
            for run in tape:
                run.append((9, 9))
            tape.append([])
        tapes.append([])
        log = hall.log_now()
        log[0][1].clear()
        log.clear()
        self.assertEqual(told_by(hall), ahead)
        self.assertEqual(told_by(hall.done_again()), ahead)
        hall.undo()
        self.assertEqual(hall.tapes_now(), [[[], [(0, 0)]], [[(-1, 1)], [(-2, 2)]], [[(-3, 3)]], []])
        self.assertEqual(hall.log_now(), [("lay", falling_items(4), 1)])

    def test_nothing_done_later_changes_the_told(self):
        hall = self.hall_with(3, ("lay", ITEMS, 1))
        told = told_by(hall)
        kept = copy.deepcopy(told)
        hall.do(("phase",))
        hall.do(("phase",))
        taken = hall.do(("take", 1))
        hall.do(("lay", ITEMS, 3))
        for deed in range(3):
            hall.undo()
        self.assertEqual(told, kept)
        self.assertEqual(taken, sorted(ITEMS))

    def test_the_told_of_the_log_is_apart_from_a_hall_done_again(self):
        hall = self.hall_with(3, ("lay", ITEMS, 1))
        again = hall.done_again()
        again.log_now()[0][1].clear()
        again.tapes_now()[0][0].clear()
        self.assertEqual(told_by(again), told_by(hall))
        self.assertEqual(hall.log_now(), [("lay", ITEMS, 1)])


class AnyDeedsTest(HallTest):
    def test_any_deeds_and_undos(self):
        """Any deeds against tapes poured by the plans' functions alone, each undone in the end."""
        source = random.Random(23)
        refusals = set()
        for case in range(120):
            many = source.randrange(3, 7)
            hall = Hall(many)
            past = []
            for step in range(40):
                now = told_by(hall)
                deed = self.any_deed(source, many)
                try:
                    hall.do(deed)
                except TapeError as refusal:
                    refusals.add(type(refusal))
                    self.assertEqual(told_by(hall), now)
                else:
                    past.append(now)
                    self.assertEqual(hall.log_now(), now[3] + [deed])
                    if deed[0] == "pour":
                        self.assertEqual(hall.tapes_now(), done_on(now[0], [deed[1]]))
                        self.assertEqual(hall.cost_now(), now[2] + cost_of(lengths_of(now[0]), [deed[1]]))
                if past and source.randrange(5) == 0:
                    hall.undo()
                    self.assertEqual(told_by(hall), past.pop())
            self.assertEqual(told_by(hall.done_again()), told_by(hall))
            while past:
                hall.undo()
                self.assertEqual(told_by(hall), past.pop())
        self.assertLessEqual({Busy, Stuck, Dry, NoPour, NoItems, NoNumber}, refusals)

    def any_deed(self, source, many):
        word = source.choice(["lay", "pour", "pour", "phase", "phase", "take"])
        if word == "lay":
            items = [(source.randrange(9), source.randrange(3)) for item in range(source.randrange(9))]
            return word, items, source.randrange(5)
        if word == "pour":
            froms = tuple(sorted(source.sample(range(many), source.randrange(1, many))))
            return word, (froms, source.randrange(many), source.randrange(1, 3))
        return (word, source.randrange(many)) if word == "take" else (word,)


if __name__ == "__main__":
    unittest.main()
