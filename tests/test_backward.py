import copy
import itertools
import random
import unittest

from tapepour.backward import done_back, ways_of
from tapepour.errors import Cross, Dry, NoPour, Stuck, TapeError, TooMany
from tapepour.evens import even_loads, fullest_load, made_up
from tapepour.loads import is_even
from tapepour.plans import done_on, plan_of

GREAT = 10 ** 60 - 1

# No pours for three tapes, each otherwise within reach of five runs on each of them.
NO_POURS = [
    (), (0,), (0, 1, 1), ((0, 1), 2), ((0, 1), 2, 1, 1), (((0,), 1, 1),), ((), 1, 1), (((0,),), 1, 1),
    ((0, (1,)), 2, 1), ((0,), (1,), 1), ((0,), 1, (1,)), ((0, 0), 1, 1), ((1, 0), 2, 1), ((0,), 0, 1), ((0, 1), 1, 1),
    ((0, 1, 2), 2, 1), ((3,), 0, 1), ((0, 3), 1, 1), ((-1,), 0, 1), ((0,), 3, 1), ((0,), -1, 1), ((0,), GREAT, 1),
    ((0,), 1, 0), ((0,), 1, -1), ((0, 1), 2, -GREAT), ((0, 1, 2, 3, 4), 5, 1),
]


def up(*keys):
    return "up", [(key, 0) for key in keys]


def down(*keys):
    return "down", [(key, 0) for key in keys]


def done_time_by_time(tapes, plan):
    """The same by reading runs back to front, item by item, of plans of pours for these tapes."""
    now = copy.deepcopy(tapes)
    for at, (froms, to, times) in enumerate(plan):
        if any(len(now[tape]) < times for tape in froms):
            raise Dry(at)
        for time in range(times):
            taken = [now[tape].pop() for tape in froms]
            read = [(way, run[::-1]) for way, run in taken if run]
            ways = {way for way, run in read}
            if len(ways) > 1:
                raise Cross(at)
            put = []
            while any(run for way, run in read):
                heads = [run for way, run in read if run]
                # Read back to front up runs fall, so the greatest head is next; down runs rise.
                next_head = max if ways == {"up"} else min
                put.append(next_head(heads, key=lambda run: run[0]).pop(0))
            now[to].append(("down" if ways == {"up"} else "up", put))
    return now


def told_or_refused(action, *arguments):
    try:
        return action(*arguments)
    except TapeError as refusal:
        return type(refusal), refusal.at


def mixed_run(source):
    way = source.choice(["up", "up", "up", "down"])
    items = sorted((source.randrange(4), source.randrange(2)) for item in range(source.randrange(4)))
    return way, items if way == "up" else items[::-1]


def mixed_cases():
    source = random.Random(20261120)
    for many in range(3, 7):
        pours = [(froms, to, times) for length in range(1, 6) for froms in itertools.combinations(range(many), length)
                 for to in range(many) if to not in froms for times in range(1, 4)]
        for case in range(300):
            tapes = [[mixed_run(source) for run in range(source.randrange(6))] for tape in range(many)]
            yield tapes, [source.choice(pours) for pour in range(source.randrange(4))]


class DoneBackTest(unittest.TestCase):
    def test_up_runs_become_a_down_run(self):
        self.assertEqual(done_back([[up(1, 4)], [up(2, 3, 9)], []], [((0, 1), 2, 1)]), [[], [], [down(9, 4, 3, 2, 1)]])

    def test_down_runs_become_an_up_run(self):
        self.assertEqual(done_back([[down(4, 1)], [down(9, 3, 2)], []], [((0, 1), 2, 1)]),
                         [[], [], [up(1, 2, 3, 4, 9)]])

    def test_last_runs_are_taken_and_put_behind_the_last_one(self):
        tapes = [[up(5), up(1, 4)], [down(8), up(0), up(2)], [down(7, 6)]]
        self.assertEqual(done_back(tapes, [((0, 1), 2, 1)]), [[up(5)], [down(8), up(0)], [down(7, 6), down(4, 2, 1)]])

    def test_so_often_from_the_last_run_on(self):
        tapes = [[up(9), up(1), up(2)], [up(3), up(4)], [up(0)]]
        self.assertEqual(done_back(tapes, [((0, 1), 2, 2)]), [[up(9)], [], [up(0), down(4, 2), down(3, 1)]])

    def test_each_time_may_have_another_way(self):
        tapes = [[down(5, 2), up(1, 3)], [down(6), up(4)], []]
        self.assertEqual(done_back(tapes, [((0, 1), 2, 2)]), [[], [], [down(4, 3, 1), up(2, 5, 6)]])

    def test_one_from_turns_the_run_round(self):
        self.assertEqual(done_back([[up(1, 2)], [], []], [((0,), 1, 1)]), [[], [down(2, 1)], []])
        self.assertEqual(done_back([[down(2, 1)], [], []], [((0,), 2, 1)]), [[], [], [up(1, 2)]])

    def test_one_item_has_a_way_too(self):
        self.assertEqual(done_back([[up(1)], [], []], [((0,), 1, 1)]), [[], [down(1)], []])
        self.assertEqual(done_back([[down(1)], [], []], [((0,), 1, 1)]), [[], [up(1)], []])

    def test_alike_items_and_marks(self):
        tapes = [[("up", [(1, 0), (1, 0), (1, 2)])], [("up", [(1, 0), (1, 1), (2, -3)])], []]
        self.assertEqual(done_back(tapes, [((0, 1), 2, 1)]),
                         [[], [], [("down", [(2, -3), (1, 2), (1, 1), (1, 0), (1, 0), (1, 0)])]])

    def test_dummies_go_with_either_way(self):
        for dummy in (up(), down()):
            self.assertEqual(done_back([[up(1, 2)], [dummy], []], [((0, 1), 2, 1)]), [[], [], [down(2, 1)]])
            self.assertEqual(done_back([[down(2, 1)], [dummy], []], [((0, 1), 2, 1)]), [[], [], [up(1, 2)]])
            self.assertEqual(done_back([[dummy], [up(3)], [up(1)], []], [((0, 1, 2), 3, 1)]),
                             [[], [], [], [down(3, 1)]])

    def test_dummies_alone_are_a_dummy_up(self):
        for dummies in itertools.product((up(), down()), repeat=2):
            self.assertEqual(done_back([[dummies[0]], [dummies[1]], []], [((0, 1), 2, 1)]), [[], [], [up()]])
        for dummy in (up(), down()):
            self.assertEqual(done_back([[dummy], [], []], [((0,), 2, 1)]), [[], [], [up()]])

    def test_what_is_not_taken_stays_as_it_is(self):
        tapes = [[down(), up(), up(1)], [down(), down(3, 2)], [down()]]
        self.assertEqual(done_back(tapes, [((0,), 2, 1)]), [[down(), up()], [down(), down(3, 2)], [down(), down(1)]])
        self.assertEqual(done_back(tapes, []), tapes)

    def test_pours_one_behind_the_other(self):
        tapes = [[up(1), up(5)], [up(3)], [down(4)]]
        # The first pour puts a down run, which the second takes with the down run behind which it was put.
        self.assertEqual(done_back(tapes, [((0, 1), 2, 1), ((2,), 1, 2)]), [[up(1)], [up(3, 5), up(4)], []])

    def test_most_tapes_and_froms(self):
        tapes = [[up(5)], [up(3)], [down()], [up(4)], [up(1)], [up(2)]]
        self.assertEqual(done_back(tapes, [((0, 1, 2, 3, 4), 5, 1)]), [[], [], [], [], [], [up(2), down(5, 4, 3, 1)]])

    def test_bare_tapes(self):
        self.assertEqual(done_back([[], [], []], []), [[], [], []])

    def test_great_numbers(self):
        tapes = [[("up", [(-GREAT, GREAT), (GREAT, -GREAT)])], [("up", [(GREAT, GREAT)])], []]
        self.assertEqual(done_back(tapes, [((0, 1), 2, 1)]),
                         [[], [], [("down", [(GREAT, GREAT), (GREAT, -GREAT), (-GREAT, GREAT)])]])

    def test_four_hundred_runs(self):
        tapes = [[up(key) for key in range(400)], [up(key) for key in range(400)], []]
        self.assertEqual(done_back(tapes, [((0, 1), 2, 400)]),
                         [[], [], [down(key, key) for key in range(399, -1, -1)]])

    def test_as_read_item_by_item(self):
        kinds = set()
        for tapes, plan in mixed_cases():
            told = told_or_refused(done_back, tapes, plan)
            kinds.add(told[0] if isinstance(told, tuple) else len(plan))
            self.assertEqual(told, told_or_refused(done_time_by_time, tapes, plan))
        self.assertLessEqual({Dry, Cross, 0, 1, 2, 3}, kinds)

    def test_runs_keep_their_ways_and_all_items(self):
        for tapes, plan in mixed_cases():
            told = told_or_refused(done_back, tapes, plan)
            if isinstance(told, list):
                for way, run in [directed for tape in told for directed in tape]:
                    self.assertEqual(run, sorted(run, reverse=way == "down"))
                items = [[item for tape in some for way, run in tape for item in run] for some in (tapes, told)]
                self.assertEqual(sorted(items[0]), sorted(items[1]))


class DoneBackRefusedTest(unittest.TestCase):
    def refused(self, kind, at, tapes, plan):
        kept = copy.deepcopy((tapes, plan))
        with self.assertRaises(kind) as caught:
            done_back(tapes, plan)
        self.assertIs(type(caught.exception), kind)
        self.assertEqual(caught.exception.at, at)
        self.assertEqual((tapes, plan), kept)

    def test_no_pours(self):
        tapes = [[up(run) for run in range(5)] for tape in range(3)]
        for pour in NO_POURS:
            with self.subTest(pour):
                self.refused(NoPour, 0, tapes, [pour])
                self.refused(NoPour, 1, tapes, [((0,), 1, 1), pour, ()])

    def test_dry(self):
        tapes = [[up(1), up(2)], [up(3)], []]
        self.refused(Dry, 0, tapes, [((2,), 0, 1)])
        self.refused(Dry, 0, tapes, [((0, 1), 2, 2)])
        self.refused(Dry, 0, tapes, [((0,), 1, GREAT)])
        self.refused(Dry, 1, tapes, [((0, 1), 2, 1), ((0, 1), 2, 1)])
        self.refused(Dry, 0, [[], [], []], [((0,), 1, 1)])

    def test_cross(self):
        self.refused(Cross, 0, [[up(1)], [down(2)], []], [((0, 1), 2, 1)])
        self.refused(Cross, 0, [[down(1)], [up(2)], []], [((0, 1), 2, 1)])
        self.refused(Cross, 0, [[up(1)], [up()], [down(2)], []], [((0, 1, 2), 3, 1)])
        self.refused(Cross, 0, [[up(1)], [up(2)], [up(3)], [up(4)], [down(5)], []], [((0, 1, 2, 3, 4), 5, 1)])

    def test_cross_at_a_later_time(self):
        tapes = [[up(1), up(2), up(3)], [down(4), up(5), up(6)], []]
        self.assertEqual(done_back(tapes, [((0, 1), 2, 2)])[2], [down(6, 3), down(5, 2)])
        self.refused(Cross, 0, tapes, [((0, 1), 2, 3)])
        self.refused(Cross, 1, tapes, [((0, 1), 2, 2), ((0, 1), 2, 1)])

    def test_cross_with_what_a_pour_put(self):
        self.refused(Cross, 1, [[up(1), up(2)], [up(3)], []], [((0, 1), 2, 1), ((0, 2), 1, 1)])

    def test_dry_first_of_one_pour(self):
        # The first time would cross, only the second one finds no run.
        self.refused(Dry, 0, [[up(1), up(2)], [down(3)], []], [((0, 1), 2, 2)])
        self.refused(Dry, 1, [[up(1), up(2)], [down(3)], []], [((0,), 2, 1), ((0, 1), 2, GREAT)])

    def test_no_pour_first_of_one_pour(self):
        tapes = [[up(1)], [down(2)], []]
        self.refused(NoPour, 0, tapes, [((0, 1), 1, 1)])
        self.refused(NoPour, 0, tapes, [((0, 1, 2), 2, 2)])
        self.refused(NoPour, 0, tapes, [((0, 1), 3, 2)])

    def test_first_of_the_plan(self):
        tapes = [[up(1), up(2)], [down(3), up(4)], []]
        cross, dry, none = ((0, 1), 2, 2), ((0,), 1, 3), ((0,), 0, 1)
        for plan in itertools.permutations([(cross, Cross), (dry, Dry), (none, NoPour)]):
            self.refused(plan[0][1], 0, tapes, [pour for pour, kind in plan])
            self.refused(plan[0][1], 1, tapes, [((1,), 2, 1) if plan[0][0] != cross else ((0, 1), 2, 1)]
                         + [plan[0][0] if plan[0][0] != cross else ((0, 1), 2, 1)] + [pour for pour, kind in plan[1:]])


class DoneBackOwnTest(unittest.TestCase):
    def setUp(self):
        self.tapes = [[up(5), down(), up(1, 4)], [up(2)], [down(3)]]

    def test_handed_in_stays(self):
        plan = [((0, 1), 2, 1), ((0,), 1, 1)]
        kept = copy.deepcopy((self.tapes, plan))
        done_back(self.tapes, plan)
        self.assertEqual((self.tapes, plan), kept)

    def test_told_is_the_askers_own(self):
        kept = copy.deepcopy(self.tapes)
        for plan in ([], [((0, 1), 2, 1)], [((0,), 1, 2)]):
            first = done_back(self.tapes, plan)
            again = copy.deepcopy(first)
            for tape in first:
                for way, run in tape:
                    run.append((9, 9))
                tape.append(up(8))
            first.append([])
            self.assertEqual(self.tapes, kept)
            self.assertEqual(done_back(self.tapes, plan), again)

    def test_what_is_done_to_the_handed_in_changes_nothing(self):
        told = done_back(self.tapes, [((0, 1), 2, 1)])
        kept = copy.deepcopy(told)
        for tape in self.tapes:
            for way, run in tape:
                run.append((9, 9))
            tape.clear()
        self.assertEqual(told, kept)


def crosses(load, ways):
    """Whether the load's plan crosses, every run of it having an item."""
    try:
        done_back([[(way, [(0, 0)]) for way in row] for row in ways], plan_of(load))
    except Cross:
        return True
    return False


def small_even_loads():
    return [load for many in (3, 4, 5, 6) for load in itertools.product(range(6), repeat=many)
            if sum(load) <= (12 if many < 5 else 9) and is_even(load)]


class WaysOfTest(unittest.TestCase):
    def test_small(self):
        self.assertEqual(ways_of((2, 1, 0)), [["down", "up"], ["up"], []])
        self.assertEqual(ways_of((1, 0, 1)), [["down"], [], ["down"]])
        self.assertEqual(ways_of((3, 2, 0)), [["up", "down", "up"], ["down", "up"], []])
        self.assertEqual(ways_of((0, 1, 1, 1)), [[], ["down"], ["down"], ["down"]])
        self.assertEqual(ways_of((1, 1, 1, 0, 1, 1)), [["down"]] * 3 + [[]] + [["down"]] * 2)

    def test_one_run_is_up(self):
        for many in range(3, 7):
            for tape in range(many):
                load = tuple(int(at == tape) for at in range(many))
                self.assertEqual(ways_of(load), [["up"] if at == tape else [] for at in range(many)])

    def test_just_one_row_of_ways(self):
        loads = small_even_loads()
        self.assertGreater(len(loads), 200)
        for load in loads:
            if sum(load) > 9 and load != tuple(sorted(load, reverse=True)):
                continue
            told = ways_of(load)
            fitting = []
            for row in itertools.product(("up", "down"), repeat=sum(load)):
                rest = iter(row)
                ways = [[next(rest) for run in range(number)] for number in load]
                if not crosses(load, ways):
                    end = done_back([[(way, [(0, 0)]) for way in tape] for tape in ways], plan_of(load))
                    if [way for tape in end for way, run in tape] == ["up"]:
                        fitting.append(ways)
            self.assertEqual(fitting, [told], load)

    def test_all_comes_out_in_order_by_either_way_of_reading(self):
        source = random.Random(7)
        loads = [load for many in range(3, 7) for phases in range(5) for load in even_loads(many, phases)]
        loads += [made_up(many, runs)[0] for many in range(3, 7) for runs in (17, 100, 200)] + [(399, 1, 0)]
        for load in loads:
            runs = [[sorted((source.randrange(9), source.randrange(3)) for item in range(source.randrange(4)))
                     for run in range(number)] for number in load]
            directed = [[(way, run if way == "up" else run[::-1]) for way, run in zip(row, tape)]
                        for row, tape in zip(ways_of(load), runs)]
            forward = done_on(runs, plan_of(load))
            self.assertEqual(done_back(directed, plan_of(load)), [[("up", run) for run in tape] for tape in forward])

    def test_four_hundred_runs(self):
        told = ways_of((399, 1, 0))
        self.assertEqual([len(row) for row in told], [399, 1, 0])
        self.assertFalse(crosses((399, 1, 0), told))
        load = fullest_load(3, 12)
        self.assertEqual(sum(load), 377)
        self.assertFalse(crosses(load, ways_of(load)))

    def test_stuck(self):
        for load, at, left in (((2, 2, 0), 1, (0, 0, 2)), ((0, 0, 0), 0, (0, 0, 0)), ((1, 1, 1), 0, (1, 1, 1)),
                               ((2, 0, 0), 0, (2, 0, 0)), ((4, 2, 0), 2, (0, 2, 0)),
                               ((0,) * 6, 0, (0,) * 6), ((GREAT, GREAT, 0), 1, (0, 0, GREAT))):
            with self.assertRaises(Stuck) as caught:
                ways_of(load)
            self.assertIs(type(caught.exception), Stuck)
            self.assertEqual((caught.exception.at, caught.exception.load), (at, left))

    def test_too_many(self):
        self.assertEqual(sum([len(row) for row in ways_of((1000, 1, 0))]), 1001)
        for load in ((1001, 1, 0), (GREAT, 1, 0), (GREAT, 0, 1)):
            with self.assertRaises(TooMany) as caught:
                ways_of(load)
            self.assertIs(type(caught.exception), TooMany)

    def test_told_is_the_askers_own(self):
        for load in ((2, 1, 0), (1, 0, 0), (1, 1, 1, 0), (3, 2, 0)):
            first = ways_of(load)
            kept = copy.deepcopy(first)
            for tape, row in enumerate(first):
                row.append("up")
                # No list of it is another one of it.
                self.assertEqual([len(other) for other in first],
                                 [len(other) + (at <= tape) for at, other in enumerate(kept)])
            self.assertEqual(ways_of(load), kept)


if __name__ == "__main__":
    unittest.main()
