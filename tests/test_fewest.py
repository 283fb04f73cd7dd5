import functools
import itertools
import unittest

from tapepour.errors import TapeError, TooMany
from tapepour.fewest import fewest_pours
from tapepour.plans import load_behind

# Loads, bounds, and just how many loads are come to: the greatest number that is not refused.
NONE_AT_FOUR_THOUSAND = [((1, 6, 4, 18), 3), ((8, 9, 15, 6), 2), ((17, 3, 1, 11, 1), 2)]
# One load more is come to here, and in the second list it would be the first one with one run.
ONE_MORE = [((14, 4, 3, 3), 4), ((2, 8, 2, 0, 13, 0), 2)]
ONE_MORE_WITH_ONE_RUN = [((3, 5, 0, 1, 7), 4), ((3, 5, 0, 1, 7), 5), ((0, 3, 5, 1, 7), 4)]


def pours_on(load):
    """All pours of two froms or more that can be done on a load, as tuples are ordered."""
    many = len(load)
    return sorted((froms, to, times) for length in range(2, 6) for froms in itertools.combinations(range(many), length)
                  for to in range(many) if to not in froms
                  for times in range(1, min(load[tape] for tape in froms) + 1))


def behind_it(load, pour):
    froms, to, times = pour
    return tuple(number - times if tape in froms else number + times if tape == to else number
                 for tape, number in enumerate(load))


@functools.cache
def first_plan_of(load, length):
    """The least plan of just so many pours that pours a load together, by trying all, or None."""
    if length == 0:
        return [] if sum(load) == 1 else None
    for pour in pours_on(load):
        rest = first_plan_of(behind_it(load, pour), length - 1)
        if rest is not None:
            return [pour] + rest
    return None


def least_plan(load, bound):
    for length in range(bound + 1):
        plan = first_plan_of(load, length)
        if plan is not None:
            return plan
    return None


def loads_come_to(load, bound):
    """How many loads are come to, without an end at 4000."""
    found, level = {load}, [load]
    if sum(load) == 1:
        return 1
    for depth in range(bound):
        behind = []
        for ahead in level:
            for pour in pours_on(ahead):
                now = behind_it(ahead, pour)
                if now not in found:
                    found.add(now)
                    behind.append(now)
                    if sum(now) == 1:
                        return len(found)
        level = behind
    return len(found)


class FewestPoursTest(unittest.TestCase):
    def test_one_run_needs_no_pour(self):
        for tapes in range(3, 7):
            for at in range(tapes):
                load = tuple(int(tape == at) for tape in range(tapes))
                for bound in (0, 1, 5):
                    self.assertEqual(fewest_pours(load, bound), [])

    def test_one_pour(self):
        self.assertEqual(fewest_pours((1, 1, 0), 1), [((0, 1), 2, 1)])
        self.assertEqual(fewest_pours((0, 1, 1), 5), [((1, 2), 0, 1)])
        self.assertEqual(fewest_pours((1, 1, 1, 0), 3), [((0, 1, 2), 3, 1)])
        self.assertEqual(fewest_pours((1, 1, 0, 1, 1, 1), 1), [((0, 1, 3, 4, 5), 2, 1)])

    def test_of_several_tapes_to_pour_into_the_first(self):
        self.assertEqual(fewest_pours((0, 1, 0, 1), 1), [((1, 3), 0, 1)])
        self.assertEqual(fewest_pours((1, 1, 0, 0, 0, 0), 2), [((0, 1), 2, 1)])

    def test_more_pours(self):
        self.assertEqual(fewest_pours((2, 1, 0), 2), [((0, 1), 2, 1), ((0, 2), 1, 1)])
        self.assertEqual(fewest_pours((1, 1, 1, 1), 3), [((0, 1), 2, 1), ((2, 3), 0, 1), ((0, 2), 1, 1)])
        self.assertEqual(fewest_pours((5, 3, 0), 4),
                         [((0, 1), 2, 3), ((0, 2), 1, 2), ((1, 2), 0, 1), ((0, 1), 2, 1)])

    def test_none_within_the_bound(self):
        self.assertIsNone(fewest_pours((1, 1, 0), 0))
        self.assertIsNone(fewest_pours((2, 1, 0), 1))
        self.assertIsNone(fewest_pours((1, 1, 1, 1), 2))
        self.assertIsNone(fewest_pours((5, 3, 0), 3))
        self.assertIsNone(fewest_pours((40, 0, 0), 5))
        self.assertIsNone(fewest_pours((0, 0, 0, 0, 0, 2), 5))

    def test_none_where_runs_are_left_on_one_tape(self):
        self.assertIsNone(fewest_pours((2, 2, 0), 1))
        self.assertIsNone(fewest_pours((2, 0, 0), 5))

    def test_a_plan_is_told_up_to_its_bound_and_not_beyond(self):
        load = (8, 5, 0)
        self.assertIsNone(fewest_pours(load, 4))
        self.assertEqual(len(fewest_pours(load, 5)), 5)

    def test_a_greater_bound_tells_the_same_plan(self):
        for bound in (2, 3, 4, 5):
            self.assertEqual(fewest_pours((2, 1, 0), bound), [((0, 1), 2, 1), ((0, 2), 1, 1)])

    def test_forty_runs(self):
        self.assertIsNone(fewest_pours((8, 8, 8, 8, 8, 0), 1))
        self.assertIsNone(fewest_pours((20, 20, 0), 5))
        self.assertIsNone(fewest_pours((39, 1, 0), 5))

    def test_small_loads_as_told_by_trying_all_plans(self):
        found = 0
        for tapes, most, bound in [(3, 9, 4), (4, 6, 3), (5, 5, 3), (6, 5, 2)]:
            for load in itertools.product(range(most + 1), repeat=tapes):
                if 1 <= sum(load) <= most:
                    told = least_plan(load, bound)
                    self.assertEqual(fewest_pours(load, bound), told, (load, bound))
                    found += told is not None
        self.assertGreater(found, 300)

    def test_some_greater_loads_as_told_by_trying_all_plans(self):
        for load, bound in [((13, 8, 0), 5), ((8, 5, 0), 5), ((4, 6, 7, 0), 3), ((7, 4, 0, 6), 4), ((5, 5, 5, 0), 3),
                            ((1, 2, 0, 2, 2), 4), ((0, 2, 2, 2, 2, 1), 2), ((1, 1, 0, 1, 2, 0), 3)]:
            with self.subTest(load=load):
                self.assertEqual(fewest_pours(load, bound), least_plan(load, bound))

    def test_what_is_told_pours_the_load_together(self):
        for load in itertools.product(range(4), repeat=4):
            if sum(load) >= 1:
                plan = fewest_pours(load, 3)
                if plan is not None:
                    self.assertEqual(sum(load_behind(load, plan)), 1)
                    self.assertTrue(all(len(froms) >= 2 for froms, to, times in plan))

    def test_what_is_told_is_the_askers_own(self):
        for load in [(1, 0, 0), (2, 1, 0)]:
            told = fewest_pours(load, 3)
            kept = list(told)
            told.append("more")
            self.assertEqual(fewest_pours(load, 3), kept)


class TooManyTest(unittest.TestCase):
    def test_four_thousand_loads_are_come_to(self):
        for load, bound in NONE_AT_FOUR_THOUSAND:
            with self.subTest(load=load):
                self.assertEqual(loads_come_to(load, bound), 4000)
                self.assertIsNone(fewest_pours(load, bound))

    def test_one_more_is_refused(self):
        for load, bound in ONE_MORE + ONE_MORE_WITH_ONE_RUN:
            with self.subTest(load=load):
                self.assertEqual(loads_come_to(load, bound), 4001)
                self.assertRaises(TooMany, fewest_pours, load, bound)

    def test_the_last_is_the_one_with_one_run(self):
        for load, bound in ONE_MORE_WITH_ONE_RUN:
            plan = first_plan_of(load, 4)
            self.assertEqual(sum(load_behind(load, plan)), 1)

    def test_a_plan_found_shortly_ahead_of_it_is_told(self):
        self.assertEqual(loads_come_to((0, 0, 0, 9, 10), 5), 3996)
        plan = fewest_pours((0, 0, 0, 9, 10), 5)
        self.assertEqual(len(plan), 5)
        self.assertEqual(sum(load_behind((0, 0, 0, 9, 10), plan)), 1)

    def test_many_runs_on_many_tapes(self):
        for load in [(7, 7, 7, 7, 6, 6), (8, 8, 8, 8, 8, 0), (10, 10, 10, 10)]:
            self.assertRaises(TooMany, fewest_pours, load, 5)

    def test_refused_just_where_more_are_come_to(self):
        for load in itertools.combinations_with_replacement(range(0, 10, 3), 4):
            for bound in (1, 2, 3):
                if sum(load) == 0:
                    continue
                try:
                    fewest_pours(load, bound)
                    refused = False
                except TapeError as refusal:
                    refused = type(refusal) is TooMany
                self.assertEqual(refused, loads_come_to(load, bound) > 4000, (load, bound))

    def test_a_refusal_changes_nothing(self):
        for again in range(2):
            self.assertRaises(TooMany, fewest_pours, (10, 10, 10, 10), 5)
        self.assertEqual(fewest_pours((1, 1, 0), 5), [((0, 1), 2, 1)])


if __name__ == "__main__":
    unittest.main()
