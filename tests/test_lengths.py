import copy
import itertools
import random
import unittest

from tapepour.errors import Dry, NoPour, TapeError
from tapepour.evens import made_up
from tapepour.lengths import cost_of, lengths_behind, lengths_of, weights_of
from tapepour.plans import done_on, load_behind, plan_of

GREAT = 10 ** 60 - 1


def run_of(*keys):
    return [(key, 0) for key in keys]


def all_pours(many, most):
    return [(froms, to, times) for length in range(1, 6) for froms in itertools.combinations(range(many), length)
            for to in range(many) if to not in froms for times in range(1, most + 1)]


def cost_time_by_time(lengths, plan):
    """The cost and the lengths behind a plan that can be done, one time behind the other."""
    now = copy.deepcopy(lengths)
    cost = 0
    for froms, to, times in plan:
        for time in range(times):
            length = sum(now[tape].pop(0) for tape in froms)
            now[to].append(length)
            cost += length
    return cost, now


def weights_time_by_time(load, plan):
    """The weights, by telling each run of the load in all pours."""
    now = [[[(tape, at)] for at in range(number)] for tape, number in enumerate(load)]
    weights = [[0] * number for number in load]
    for froms, to, times in plan:
        for time in range(times):
            taking_part = [told for tape in froms for told in now[tape].pop(0)]
            for tape, at in taking_part:
                weights[tape][at] += 1
            now[to].append(taking_part)
    return weights


def told_or_refused(action, *arguments):
    try:
        return action(*arguments)
    except TapeError as refusal:
        return type(refusal), refusal.at


def mixed_cases():
    source = random.Random(19)
    for many in range(3, 7):
        pours = all_pours(many, 3)
        for case in range(150):
            tapes = [[sorted((source.randrange(9), 0) for item in range(source.randrange(4)))
                      for run in range(source.randrange(7))] for tape in range(many)]
            yield tapes, [source.choice(pours) for pour in range(source.randrange(5))]


def mixed_plans_to_one_run(many, loads):
    """Loads and plans, of one from too, that pour them to one run."""
    source = random.Random(many)
    pours = all_pours(many, 3)
    while loads:
        load = tuple(source.randrange(5) for tape in range(many))
        now, plan = load, []
        while sum(now) > 1 and len(plan) < 40:
            pour = source.choice(pours)
            try:
                now = load_behind(now, [pour])
            except Dry:
                continue
            plan.append(pour)
        if sum(now) == 1:
            loads -= 1
            yield load, plan


class LengthsOfTest(unittest.TestCase):
    def test_the_lengths_of_the_runs(self):
        self.assertEqual(lengths_of([[], [], []]), [[], [], []])
        self.assertEqual(lengths_of([[run_of(1, 2, 2), []], [], [run_of(3)]]), [[3, 0], [], [1]])
        self.assertEqual(lengths_of([[run_of(*range(400))], [], [], [], [], [[]] * 400]),
                         [[400], [], [], [], [], [0] * 400])

    def test_what_is_handed_in_stays_and_what_is_told_is_the_askers_own(self):
        tapes = [[run_of(1, 2)], [], [[]]]
        told = lengths_of(tapes)
        told[0].append(7)
        told.append([])
        self.assertEqual(tapes, [[run_of(1, 2)], [], [[]]])
        self.assertEqual(lengths_of(tapes), [[2], [], [0]])


class LengthsBehindTest(unittest.TestCase):
    def test_lengths_are_added(self):
        lengths = [[5, 2, 0], [3, 1], [7]]
        self.assertEqual(lengths_behind(lengths, [((0, 1), 2, 1)]), [[2, 0], [1], [7, 8]])
        self.assertEqual(lengths_behind(lengths, [((0, 1), 2, 2), ((0, 2), 1, 1)]), [[], [7], [8, 3]])
        self.assertEqual(lengths_behind(lengths, [((2,), 0, 1)]), [[5, 2, 0, 7], [3, 1], []])

    def test_a_plan_without_pours(self):
        self.assertEqual(lengths_behind([[5], [], [0, 1]], []), [[5], [], [0, 1]])

    def test_dummies_stay_without_length(self):
        self.assertEqual(lengths_behind([[0, 0], [0, 4], []], [((0, 1), 2, 2)]), [[], [], [0, 4]])

    def test_numbers_of_sixty_figures(self):
        self.assertEqual(lengths_behind([[GREAT], [GREAT], []], [((0, 1), 2, 1)]), [[], [], [2 * GREAT]])

    def test_as_the_lengths_of_the_tapes_behind_it(self):
        done = 0
        for tapes, plan in mixed_cases():
            told = told_or_refused(done_on, tapes, plan)
            if isinstance(told, list):
                told = lengths_of(told)
                done += 1
            self.assertEqual(told_or_refused(lengths_behind, lengths_of(tapes), plan), told)
        self.assertGreater(done, 50)

    def test_what_is_handed_in_stays_and_what_is_told_is_the_askers_own(self):
        for plan in ([], [((0, 1), 2, 1)], [((0,), 2, 2)]):
            lengths, handed = [[5, 2], [3], []], list(plan)
            told = lengths_behind(lengths, handed)
            kept = copy.deepcopy(told)
            for tape in told:
                tape.append(99)
            told.append([])
            self.assertEqual((lengths, handed), ([[5, 2], [3], []], plan))
            self.assertEqual(lengths_behind(lengths, plan), kept)
            again = lengths_behind(lengths, plan)
            for tape in lengths:
                tape.clear()
            self.assertEqual(again, kept)


class CostOfTest(unittest.TestCase):
    def test_the_sum_of_all_runs_that_are_put(self):
        lengths = [[5, 2, 0], [3, 1], [7]]
        self.assertEqual(cost_of(lengths, []), 0)
        self.assertEqual(cost_of(lengths, [((0, 1), 2, 1)]), 8)
        self.assertEqual(cost_of(lengths, [((0, 1), 2, 2)]), 11)
        self.assertEqual(cost_of(lengths, [((0, 1), 2, 2), ((0, 2), 1, 1)]), 18)

    def test_a_run_of_one_tape_alone_costs_too(self):
        self.assertEqual(cost_of([[5, 2], [], []], [((0,), 1, 2), ((1,), 2, 1)]), 12)

    def test_dummies_cost_nothing(self):
        self.assertEqual(cost_of([[0, 0], [0, 4], []], [((0, 1), 2, 2)]), 4)
        self.assertEqual(cost_of([[0], [0], []], [((0, 1), 2, 1)]), 0)

    def test_numbers_of_sixty_figures(self):
        self.assertEqual(cost_of([[GREAT], [GREAT], [1]], [((0, 1), 2, 1), ((2,), 0, 2)]), 4 * GREAT + 1)

    def test_as_told_time_by_time(self):
        for tapes, plan in mixed_cases():
            lengths = lengths_of(tapes)
            told = told_or_refused(cost_of, lengths, plan)
            if isinstance(told, int):
                self.assertEqual((told, lengths_behind(lengths, plan)), cost_time_by_time(lengths, plan))
            else:
                self.assertEqual(told, told_or_refused(done_on, tapes, plan))

    def test_what_is_handed_in_stays(self):
        lengths, plan = [[5, 2], [3], []], [((0, 1), 2, 1)]
        cost_of(lengths, plan)
        self.assertEqual((lengths, plan), ([[5, 2], [3], []], [((0, 1), 2, 1)]))


class RefusalsTest(unittest.TestCase):
    def test_dry_and_no_pour_with_their_places(self):
        lengths = [[5, 2], [3], []]
        for plan, told in [
                ([((0, 1), 2, 2)], (Dry, 0)), ([((0, 1), 2, 1), ((1,), 0, 1)], (Dry, 1)),
                ([((0,), 1, GREAT)], (Dry, 0)), ([()], (NoPour, 0)), ([((0, 1), 1, 9)], (NoPour, 0)),
                ([((0, 1), 2, 1), ((0, 3), 1, 1)], (NoPour, 1)), ([((0, 1), 2, 2), ()], (Dry, 0)),
                ([((0, 1), 2, 1), ((0, (1,)), 2, 1), ((1,), 0, 1)], (NoPour, 1)), ([((0,), 1, 0)], (NoPour, 0))]:
            for action in (lengths_behind, cost_of):
                with self.subTest(action=action.__name__, plan=plan):
                    self.assertEqual(told_or_refused(action, lengths, plan), told)
                    self.assertEqual(lengths, [[5, 2], [3], []])


class WeightsOfTest(unittest.TestCase):
    def test_one_run_without_pours(self):
        self.assertEqual(weights_of((1, 0, 0), []), [[0], [], []])
        self.assertEqual(weights_of((0, 0, 0, 0, 0, 1), []), [[], [], [], [], [], [0]])

    def test_in_how_many_pours_each_run_takes_part(self):
        self.assertEqual(weights_of((2, 1, 0), [((0, 1), 2, 1), ((0, 2), 1, 1)]), [[2, 1], [2], []])
        self.assertEqual(weights_of((1, 1, 1, 0), [((0, 1, 2), 3, 1)]), [[1], [1], [1], []])
        self.assertEqual(weights_of((3, 2, 0), plan_of((3, 2, 0))), [[3, 2, 2], [3, 2], []])

    def test_each_time_is_counted_by_itself(self):
        plan = [((0, 1), 2, 2), ((2,), 0, 1), ((0, 2), 1, 1), ((1,), 0, 1), ((0,), 1, 1)]
        self.assertEqual(weights_of((2, 2, 0), plan), [[5, 4], [5, 4], []])

    def test_runs_put_behind_runs_that_were_there(self):
        plan = [((0, 1), 2, 1), ((2,), 0, 1), ((0, 2), 1, 1)]
        self.assertEqual(weights_of((1, 1, 1), plan), [[2], [2], [2]])

    def test_as_told_run_by_run(self):
        for many in range(3, 7):
            for load, plan in mixed_plans_to_one_run(many, 60):
                self.assertEqual(weights_of(load, plan), weights_time_by_time(load, plan), (load, plan))

    def test_the_plans_of_even_loads(self):
        for many in range(3, 7):
            for runs in (1, 2, 30, 100, 200):
                load = made_up(many, runs)[0]
                self.assertEqual(weights_of(load, plan_of(load)), weights_time_by_time(load, plan_of(load)))

    def test_a_thousand_phases(self):
        weights = weights_of((1000, 1, 0), plan_of((1000, 1, 0)))
        self.assertEqual(weights, [list(range(1000, 0, -1)), [1000], []])

    def test_the_cost_is_the_sum_of_lengths_times_weights(self):
        source = random.Random(18)
        for many in range(3, 7):
            for load, plan in mixed_plans_to_one_run(many, 40):
                lengths = [[source.choice([0, 1, 7, GREAT]) for run in range(number)] for number in load]
                told = sum(length * weight for tape, row in zip(lengths, weights_of(load, plan))
                           for length, weight in zip(tape, row))
                self.assertEqual(cost_of(lengths, plan), told)

    def test_what_is_handed_in_stays_and_what_is_told_is_the_askers_own(self):
        plan = [((0, 1), 2, 1), ((0, 2), 1, 1)]
        told = weights_of((2, 1, 0), plan)
        for tape in told:
            tape.append(99)
        told.append([])
        self.assertEqual(plan, [((0, 1), 2, 1), ((0, 2), 1, 1)])
        self.assertEqual(weights_of((2, 1, 0), plan), [[2, 1], [2], []])

    def test_lists_within_are_each_their_own(self):
        told = weights_of((1, 1, 1, 0), [((0, 1, 2), 3, 1)])
        told[0].append(99)
        self.assertEqual(told, [[1, 99], [1], [1], []])


if __name__ == "__main__":
    unittest.main()
