import copy
import itertools
import random
import unittest

from tapepour.errors import Dry, NoPour, Stuck, TapeError, TooMany
from tapepour.evens import made_up
from tapepour.loads import phases_of
from tapepour.plans import done_on, load_behind, load_of, plan_of

GREAT = 10 ** 60 - 1

# No pours for three tapes, each otherwise within reach of the load (5, 5, 5).
NO_POURS = [
    (), (0,), (0, 1), (0, 1, 1), ((0,), 1), ((0, 1), 2), ((0, 1), 2, 1, 1), ((0,), 1, 1, ()), (((0,), 1, 1),),
    ((), 1, 1), ((), (), ()), (((0,),), 1, 1), (((0, 1),), 2, 1), ((0, (1,)), 2, 1), ((0, ()), 2, 1),
    ((0,), (1,), 1), ((0,), (), 1), ((0,), 1, (1,)), ((0,), 1, ()), (0, (1,), 1), (1, (0,), 1),
    ((0, 0), 1, 1), ((1, 1), 0, 1), ((1, 0), 2, 1), ((2, 0), 1, 1), ((0, 1, 0), 2, 1), ((0, 1, 1), 2, 1),
    ((0,), 0, 1), ((0, 1), 0, 1), ((0, 1), 1, 1), ((0, 1, 2), 1, 1), ((0, 1, 2), 2, 1), ((0, 1, 2), 3, 1),
    ((3,), 0, 1), ((0, 3), 1, 1), ((-1,), 0, 1), ((-1, 0), 1, 1), ((-3,), 1, 1), ((0,), 3, 1), ((0,), -1, 1),
    ((0,), GREAT, 1), ((GREAT,), 0, 1), ((-GREAT,), 0, 1), ((0, 1), -GREAT, 1),
    ((0,), 1, 0), ((0,), 1, -1), ((0, 1), 2, -GREAT), ((0, 1), 2, 0),
    ((0, 1, 2, 3, 4, 5), 2, 1), ((0, 1, 2, 3, 4), 5, 1), (((0, 1), 2, 1), ((0, 1), 2, 1), 1),
    ((0, True), 2, 1), ((False,), 1, 1), ((0,), True, 1), ((0,), 1, True),
]


def run_of(*keys):
    return [(key, 0) for key in keys]


def all_pours(many, most):
    """All pours for so many tapes that are done at most so often."""
    return [(froms, to, times) for length in range(1, 6) for froms in itertools.combinations(range(many), length)
            for to in range(many) if to not in froms for times in range(1, most + 1)]


def done_time_by_time(tapes, plan):
    """The same, one time behind the other, of plans that have no refusal but Dry."""
    now = copy.deepcopy(tapes)
    for at, (froms, to, times) in enumerate(plan):
        for time in range(times):
            if not all(now[tape] for tape in froms):
                raise Dry(at)
            now[to].append(sorted(item for tape in froms for item in now[tape].pop(0)))
    return now


def told_or_refused(action, *arguments):
    try:
        return action(*arguments)
    except TapeError as refusal:
        return type(refusal), refusal.at


def mixed_tapes(source, many):
    """Tapes of up to six runs, dummies and alike items among them."""
    return [[sorted((source.randrange(5), source.randrange(2)) for item in range(source.randrange(4)))
             for run in range(source.randrange(7))] for tape in range(many)]


def mixed_cases():
    source = random.Random(20261118)
    for many in range(3, 7):
        pours = all_pours(many, 3)
        for case in range(150):
            tapes = mixed_tapes(source, many)
            yield tapes, [source.choice(pours) for pour in range(source.randrange(5))]


class DoneOnTest(unittest.TestCase):
    def setUp(self):
        self.tapes = [[run_of(1, 4), run_of(2), []], [run_of(3, 9), run_of(0)], [run_of(7)]]

    def test_first_runs_are_poured_behind_the_last_one(self):
        self.assertEqual(done_on(self.tapes, [((0, 1), 2, 1)]),
                         [[run_of(2), []], [run_of(0)], [run_of(7), run_of(1, 3, 4, 9)]])

    def test_so_often(self):
        self.assertEqual(done_on(self.tapes, [((0, 1), 2, 2)]),
                         [[[]], [], [run_of(7), run_of(1, 3, 4, 9), run_of(0, 2)]])

    def test_one_behind_the_other(self):
        self.assertEqual(done_on(self.tapes, [((0, 1), 2, 2), ((0, 2), 1, 1), ((1,), 0, 1)]),
                         [[run_of(7)], [], [run_of(1, 3, 4, 9), run_of(0, 2)]])

    def test_of_one_tape_alone(self):
        self.assertEqual(done_on(self.tapes, [((0,), 1, 3)]),
                         [[], [run_of(3, 9), run_of(0), run_of(1, 4), run_of(2), []], [run_of(7)]])

    def test_a_plan_without_pours(self):
        self.assertEqual(done_on(self.tapes, []), self.tapes)
        self.assertEqual(done_on([[], [], []], []), [[], [], []])

    def test_dummies_are_poured_as_runs_are(self):
        self.assertEqual(done_on([[[]], [[]], []], [((0, 1), 2, 1)]), [[], [], [[]]])
        self.assertEqual(done_on([[[], run_of(1)], [run_of(2), []], []], [((0, 1), 2, 2)]),
                         [[], [], [run_of(2), run_of(1)]])

    def test_alike_items_and_marks_are_all_kept(self):
        tapes = [[[(1, 1), (1, 1)]], [[(1, 0), (1, 1)]], []]
        self.assertEqual(done_on(tapes, [((0, 1), 2, 1)]), [[], [], [[(1, 0), (1, 1), (1, 1), (1, 1)]]])

    def test_five_froms_of_six_tapes(self):
        tapes = [[run_of(5)], [run_of(4)], [run_of(3)], [], [run_of(2)], [run_of(1)]]
        self.assertEqual(done_on(tapes, [((0, 1, 2, 4, 5), 3, 1)]), [[], [], [], [run_of(1, 2, 3, 4, 5)], [], []])

    def test_four_hundred_runs(self):
        tapes = [[run_of(2 * at) for at in range(400)], [run_of(2 * at + 1) for at in range(400)], []]
        self.assertEqual(done_on(tapes, [((0, 1), 2, 400)]),
                         [[], [], [run_of(2 * at, 2 * at + 1) for at in range(400)]])

    def test_as_told_time_by_time(self):
        dry = 0
        for tapes, plan in mixed_cases():
            told = told_or_refused(done_time_by_time, tapes, plan)
            self.assertEqual(told_or_refused(done_on, tapes, plan), told, (tapes, plan))
            dry += isinstance(told, tuple)
        self.assertGreater(dry, 50)
        self.assertLess(dry, 550)

    def test_no_item_is_lost(self):
        for tapes, plan in mixed_cases():
            told = told_or_refused(done_on, tapes, plan)
            if isinstance(told, list):
                self.assertEqual(sorted(item for tape in told for run in tape for item in run),
                                 sorted(item for tape in tapes for run in tape for item in run))

    def test_the_plan_of_an_even_load_pours_all_together(self):
        for many in range(3, 7):
            load, dummies, phases = made_up(many, 30)
            tapes = [[run_of(tape - at, tape + at) for at in range(number)] for tape, number in enumerate(load)]
            told = done_on(tapes, plan_of(load))
            self.assertEqual(sorted(len(tape) for tape in told), [0] * (many - 1) + [1])
            self.assertEqual([run for tape in told for run in tape],
                             [sorted(item for tape in tapes for run in tape for item in run)])

    def test_what_is_handed_in_stays(self):
        for plan in ([], [((0, 1), 2, 2), ((2,), 0, 3)], [((0, 1), 2, 1), ((0, 1), 2, 5)], [((0, 1), 2, 1), ()]):
            kept, tapes, handed = copy.deepcopy(self.tapes), copy.deepcopy(self.tapes), list(plan)
            told_or_refused(done_on, tapes, handed)
            self.assertEqual((tapes, handed), (kept, plan))

    def test_what_is_told_is_the_askers_own(self):
        for plan in ([], [((0, 1), 2, 1)], [((0,), 2, 2)]):
            kept = copy.deepcopy(self.tapes)
            told = done_on(self.tapes, plan)
            again = copy.deepcopy(told)
            for tape in told:
                for run in tape:
                    run.append((99, 99))
                tape.append([])
            told.append([])
            self.assertEqual(self.tapes, kept)
            self.assertEqual(done_on(self.tapes, plan), again)

    def test_what_the_asker_does_to_what_was_handed_in_changes_nothing(self):
        told = done_on(self.tapes, [((0,), 2, 1)])
        kept = copy.deepcopy(told)
        for tape in self.tapes:
            for run in tape:
                run.append((99, 99))
            tape.clear()
        self.assertEqual(told, kept)

    def test_one_run_handed_in_twice_is_told_as_two(self):
        run = run_of(1)
        told = done_on([[run, run], [run], []], [])
        told[0][0].append((2, 0))
        self.assertEqual(told, [[run_of(1, 2), run_of(1)], [run_of(1)], []])


class RefusalsTest(unittest.TestCase):
    def refused_both(self, load, plan, refusal, at):
        """The same refusal is due of tapes and of loads."""
        tapes = [[run_of(tape, 9) for run in range(number)] for tape, number in enumerate(load)]
        kept = copy.deepcopy(tapes)
        for action, handed in ((done_on, tapes), (load_behind, load)):
            with self.subTest(action=action.__name__, plan=plan):
                with self.assertRaises(refusal) as caught:
                    action(handed, plan)
                self.assertIs(type(caught.exception), refusal)
                self.assertEqual(caught.exception.at, at)
        self.assertEqual(tapes, kept)

    def test_dry_where_a_tape_has_no_run_left(self):
        self.refused_both((0, 0, 0), [((0,), 1, 1)], Dry, 0)
        self.refused_both((2, 1, 0), [((0, 1), 2, 2)], Dry, 0)
        self.refused_both((2, 1, 0), [((0, 1), 2, 1), ((0, 1), 2, 1)], Dry, 1)
        self.refused_both((1, 2, 3), [((0, 1), 2, 1), ((2,), 0, 4), ((2,), 1, 1)], Dry, 2)
        self.refused_both((5, 4, 3, 2, 1, 0), [((0, 1, 2, 3, 4), 5, 2)], Dry, 0)
        self.refused_both((2, 1, 0), [((0,), 2, GREAT)], Dry, 0)

    def test_just_enough_is_not_dry(self):
        self.assertEqual(load_behind((2, 2, 0), [((0, 1), 2, 2)]), (0, 0, 2))
        self.assertEqual(load_of(done_on([[[], []], [[], []], []], [((0, 1), 2, 2)])), (0, 0, 2))

    def test_no_pour(self):
        for wrong in NO_POURS:
            self.refused_both((5, 5, 5), [wrong], NoPour, 0)
            self.refused_both((5, 5, 5), [((0, 1), 2, 1), ((2,), 0, 1), wrong, ((0,), 1, 1)], NoPour, 2)

    def test_no_pour_for_more_tapes(self):
        for many in range(3, 7):
            load = (5,) * many
            for wrong in [((0,), many, 1), ((many,), 0, 1), ((0, many), 1, 1), (tuple(range(many)), 0, 1),
                          (tuple(range(many)), many, 1), (tuple(range(many - 1, 0, -1)), 0, 1)]:
                self.refused_both(load, [wrong], NoPour, 0)

    def test_six_froms_are_no_pour_of_seven_tapes(self):
        self.refused_both((5,) * 7, [((0, 1, 2, 3, 4, 5), 6, 1)], NoPour, 0)
        self.assertEqual(load_behind((5,) * 7, [((0, 1, 2, 3, 4), 6, 1)]), (4, 4, 4, 4, 4, 5, 6))

    def test_all_tuples_of_small_numbers(self):
        good = set(all_pours(3, 2))
        things = [-1, 0, 1, 2, 3]
        froms = [thing for length in range(4) for thing in itertools.product(things, repeat=length)]
        for pour in itertools.product(froms, things, [-1, 0, 1, 2]):
            told = told_or_refused(load_behind, (5, 5, 5), [pour])
            self.assertEqual(told == (NoPour, 0), pour not in good, pour)

    def test_the_first_in_the_plans_order(self):
        self.refused_both((1, 1, 0), [((0, 1), 2, 2), ()], Dry, 0)
        self.refused_both((1, 1, 0), [(), ((0, 1), 2, 2)], NoPour, 0)
        self.refused_both((1, 1, 0), [((0, 1), 2, 1), ((0,), 1, 1), ((0,), 0, 1)], Dry, 1)
        self.refused_both((1, 1, 0), [((0, 1), 2, 1), ((0,), 0, 1), ((0,), 1, 1)], NoPour, 1)

    def test_of_one_pour_no_pour_first(self):
        for wrong in [((0, 1), 0, 7), ((1, 0), 2, 7), ((0, 3), 1, 7), ((0,), 3, 7), ((0, 0), 1, 7)]:
            self.refused_both((0, 0, 0), [wrong], NoPour, 0)
            self.refused_both((2, 2, 2), [wrong], NoPour, 0)


class LoadOfTest(unittest.TestCase):
    def test_how_many_runs_lie_on_each_tape(self):
        self.assertEqual(load_of([[], [], []]), (0, 0, 0))
        self.assertEqual(load_of([[run_of(1, 2), []], [run_of(3)], []]), (2, 1, 0))
        self.assertEqual(load_of([[[]] * 400, [], [], [[]], [], [run_of(1)]]), (400, 0, 0, 1, 0, 1))

    def test_a_load_is_a_tuple(self):
        self.assertIsInstance(load_of([[], [], []]), tuple)


class LoadBehindTest(unittest.TestCase):
    def test_the_load_behind_a_plan(self):
        self.assertEqual(load_behind((2, 1, 0), []), (2, 1, 0))
        self.assertEqual(load_behind((2, 1, 0), [((0, 1), 2, 1)]), (1, 0, 1))
        self.assertEqual(load_behind((2, 1, 0), [((0, 1), 2, 1), ((0, 2), 1, 1)]), (0, 1, 0))
        self.assertEqual(load_behind((5, 4, 3, 2, 1, 0), [((0, 1, 2, 3, 4), 5, 1), ((0,), 4, 4)]),
                         (0, 3, 2, 1, 4, 1))

    def test_as_the_load_of_the_tapes_behind_it(self):
        for tapes, plan in mixed_cases():
            told = told_or_refused(done_on, tapes, plan)
            if isinstance(told, list):
                told = load_of(told)
            self.assertEqual(told_or_refused(load_behind, load_of(tapes), plan), told)

    def test_numbers_of_sixty_figures(self):
        self.assertEqual(load_behind((GREAT, GREAT, 0), [((0, 1), 2, GREAT)]), (0, 0, GREAT))
        self.assertEqual(load_behind((GREAT, GREAT - 1, 0), [((0, 1), 2, GREAT - 1), ((0, 2), 1, 1)]),
                         (0, 1, GREAT - 2))
        self.assertEqual(load_behind((GREAT, 0, GREAT), [((0,), 2, GREAT), ((2,), 1, 2 * GREAT)]), (0, 2 * GREAT, 0))

    def test_refusals_of_numbers_of_sixty_figures(self):
        for plan, told in [([((0, 1), 2, GREAT)], (Dry, 0)), ([((0, 1), 2, GREAT - 1), ((1,), 2, 1)], (Dry, 1)),
                           ([((0, 1), 2, GREAT - 1), ((1, 1), 2, 1)], (NoPour, 1))]:
            self.assertEqual(told_or_refused(load_behind, (GREAT, GREAT - 1, 0), plan), told)

    def test_what_is_handed_in_stays(self):
        plan = [((0, 1), 2, 1), ((0, 2), 1, 1)]
        load_behind((2, 1, 0), plan)
        self.assertEqual(plan, [((0, 1), 2, 1), ((0, 2), 1, 1)])

    def test_a_load_is_a_tuple(self):
        self.assertIsInstance(load_behind((2, 1, 0), [((0, 1), 2, 1)]), tuple)


class PlanOfTest(unittest.TestCase):
    def test_one_run_needs_no_pour(self):
        self.assertEqual(plan_of((1, 0, 0)), [])
        self.assertEqual(plan_of((0, 0, 0, 0, 0, 1)), [])

    def test_one_pour_for_each_phase(self):
        self.assertEqual(plan_of((2, 1, 0)), [((0, 1), 2, 1), ((0, 2), 1, 1)])
        self.assertEqual(plan_of((0, 3, 5)), [((1, 2), 0, 3), ((0, 2), 1, 2), ((0, 1), 2, 1), ((1, 2), 0, 1)])
        self.assertEqual(plan_of((1, 1, 1, 0)), [((0, 1, 2), 3, 1)])
        self.assertEqual(plan_of((0, 4, 4, 4, 3, 2)),
                         [((1, 2, 3, 4, 5), 0, 2), ((0, 1, 2, 3, 4), 5, 1), ((0, 1, 2, 3, 5), 4, 1)])

    def test_it_leads_from_phase_to_phase(self):
        for many in range(3, 7):
            for runs in (2, 17, 64, 200):
                load, dummies, phases = made_up(many, runs)
                plan = plan_of(load)
                self.assertEqual([load_behind(load, plan[:at + 1]) for at in range(len(plan))], phases_of(load))

    def test_a_thousand_phases(self):
        plan = plan_of((1000, 1, 0))
        self.assertEqual(len(plan), 1000)
        self.assertEqual(load_behind((1000, 1, 0), plan), (0, 1, 0))

    def test_a_load_of_sixty_figures(self):
        less, more = 0, 1
        while less + more <= GREAT:
            less, more = more, less + more
        plan = plan_of((more, less, 0))
        self.assertEqual(plan[0], ((0, 1), 2, less))
        self.assertEqual(sum(load_behind((more, less, 0), plan)), 1)

    def test_one_phase_more_is_too_many(self):
        for load in [(1001, 1, 0), (2002, 2, 0), (GREAT, 1, 0)]:
            self.assertRaises(TooMany, plan_of, load)

    def test_a_load_that_is_not_even_is_stuck(self):
        for load, at, behind in [((0, 0, 0), 0, (0, 0, 0)), ((1, 1, 1), 0, (1, 1, 1)), ((1, 1, 0, 0), 0, (1, 1, 0, 0)),
                                 ((4, 2, 0), 2, (0, 2, 0)), ((2000, 2, 0), 1000, (0, 2, 0))]:
            with self.assertRaises(Stuck) as caught:
                plan_of(load)
            self.assertEqual((caught.exception.at, caught.exception.load), (at, behind))

    def test_what_is_told_is_the_askers_own(self):
        plan_of((2, 1, 0)).append("more")
        self.assertEqual(plan_of((2, 1, 0)), [((0, 1), 2, 1), ((0, 2), 1, 1)])
        plan_of((1, 0, 0)).append("more")
        self.assertEqual(plan_of((1, 0, 0)), [])


if __name__ == "__main__":
    unittest.main()
