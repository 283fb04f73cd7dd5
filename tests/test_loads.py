import itertools
import unittest

from tapepour.errors import Stuck, TooMany
from tapepour.loads import behind_phase, is_even, phase_of, phases_of

GREAT = 10 ** 60 - 1

NO_PHASE = [
    (0, 0, 0), (0, 0, 0, 0, 0, 0),
    (1, 0, 0), (0, 0, 1, 0),
    (1, 1, 1), (3, 2, 1, 4, 5, 6), (GREAT, GREAT, GREAT),
    (2, 0, 0), (0, 3, 0), (1, 0, 1, 0), (0, 5, 0, 4, 3), (GREAT, 0, 0, GREAT),
]

PHASE = [
    ((2, 1, 0), (2, 1), (1, 0, 1)),
    ((1, 0, 1), (1, 1), (0, 1, 0)),
    ((0, 3, 5), (0, 3), (3, 0, 2)),
    ((4, 4, 0), (2, 4), (0, 0, 4)),
    ((7, 0, 3, 5), (1, 3), (4, 3, 0, 2)),
    ((9, 8, 7, 0, 6), (3, 6), (3, 2, 1, 6, 0)),
    ((0, 2, 3, 4, 5, 6), (0, 2), (2, 0, 1, 2, 3, 4)),
    ((5, 4, 3, 2, 1, 0), (5, 1), (4, 3, 2, 1, 0, 1)),
    ((GREAT, 0, GREAT - 1), (1, GREAT - 1), (1, GREAT - 1, 0)),
]

# Each load, how many phases it has, and the load behind which it can't go on.
NOT_EVEN = [
    ((0, 0, 0), 0, (0, 0, 0)),
    ((0, 0, 0, 0, 0, 0), 0, (0, 0, 0, 0, 0, 0)),
    ((1, 1, 1), 0, (1, 1, 1)),
    ((2, 1, 1, 3), 0, (2, 1, 1, 3)),
    ((2, 0, 0), 0, (2, 0, 0)),
    ((1, 1, 0, 0), 0, (1, 1, 0, 0)),
    ((2, 2, 0), 1, (0, 0, 2)),
    ((4, 2, 0), 2, (0, 2, 0)),
    ((0, 2, 1, 1), 1, (1, 1, 0, 0)),
    ((5, 3, 2, 1, 0), 2, (3, 1, 0, 1, 0)),
    ((3, 3, 3, 3, 3, 0), 1, (0, 0, 0, 0, 0, 3)),
    ((GREAT, GREAT, 0), 1, (0, 0, GREAT)),
    ((GREAT, GREAT, GREAT), 0, (GREAT, GREAT, GREAT)),
]


def loads_within(tapes, runs):
    for load in itertools.product(range(runs + 1), repeat=tapes):
        if sum(load) <= runs:
            yield load


def loads_ahead(load):
    """The loads that come backward of this one, one by each tape that is not bare."""
    return [tuple(0 if at == tape else many + number for at, many in enumerate(load))
            for tape, number in enumerate(load) if number > 0]


def backward_loads(tapes, runs):
    """All loads of at most so many runs that are come to backward from one run."""
    waiting = [tuple(int(tape == begin) for tape in range(tapes)) for begin in range(tapes)]
    found = set()
    while waiting:
        load = waiting.pop()
        if sum(load) <= runs and load not in found:
            found.add(load)
            waiting += loads_ahead(load)
    return sorted(found)


class PhaseOfTest(unittest.TestCase):
    def test_the_bare_tape_and_the_pours(self):
        for load, phase, behind in PHASE:
            with self.subTest(load=load):
                self.assertEqual(phase_of(load), phase)

    def test_none_where_no_phase_can_be_made(self):
        for load in NO_PHASE:
            with self.subTest(load=load):
                self.assertIsNone(phase_of(load))

    def test_no_error_for_fewer_or_more_tapes(self):
        self.assertIsNone(phase_of((0,)))
        self.assertEqual(phase_of((3, 0)), (1, 3))
        self.assertEqual(phase_of((3, 4, 5, 6, 7, 8, 0)), (6, 3))


class BehindPhaseTest(unittest.TestCase):
    def test_the_load_behind_it(self):
        for load, phase, behind in PHASE:
            with self.subTest(load=load):
                self.assertEqual(behind_phase(load), behind)

    def test_a_load_is_told_as_a_tuple(self):
        self.assertIsInstance(behind_phase((2, 1, 0)), tuple)

    def test_stuck_at_nought_where_no_phase_can_be_made(self):
        for load in NO_PHASE:
            with self.subTest(load=load):
                with self.assertRaises(Stuck) as caught:
                    behind_phase(load)
                self.assertEqual(caught.exception.at, 0)
                self.assertEqual(caught.exception.load, load)


class PhasesOfTest(unittest.TestCase):
    def test_the_example_of_the_document(self):
        self.assertEqual(phases_of((2, 1, 0)), [(1, 0, 1), (0, 1, 0)])

    def test_one_run_has_no_phases(self):
        for tapes in range(3, 7):
            for at in range(tapes):
                load = tuple(int(tape == at) for tape in range(tapes))
                self.assertEqual(phases_of(load), [])

    def test_one_run_goes_no_further_on_two_tapes(self):
        self.assertEqual(phases_of((1, 0)), [])

    def test_loads_of_four_to_six_tapes(self):
        self.assertEqual(phases_of((1, 1, 1, 0)), [(0, 0, 0, 1)])
        self.assertEqual(phases_of((0, 2, 2, 1)), [(1, 1, 1, 0), (0, 0, 0, 1)])
        self.assertEqual(phases_of((2, 2, 2, 0, 1)), [(1, 1, 1, 1, 0), (0, 0, 0, 0, 1)])
        self.assertEqual(phases_of((0, 4, 4, 4, 3, 2)),
                         [(2, 2, 2, 2, 1, 0), (1, 1, 1, 1, 0, 1), (0, 0, 0, 0, 1, 0)])

    def test_stuck_tells_the_phases_made_and_the_load_behind_them(self):
        for load, at, behind in NOT_EVEN:
            with self.subTest(load=load):
                with self.assertRaises(Stuck) as caught:
                    phases_of(load)
                self.assertEqual(caught.exception.at, at)
                self.assertEqual(caught.exception.load, behind)

    def test_a_load_of_sixty_figures(self):
        less, more = 0, 1
        steps = 0
        while less + more <= GREAT:
            less, more = more, less + more
            steps += 1
        self.assertEqual(len(str(more)), 60)
        phases = phases_of((more, less, 0))
        self.assertEqual(len(phases), steps)
        self.assertEqual(phases[0], (more - less, 0, less))
        self.assertEqual(sorted(phases[-1]), [0, 0, 1])

    def test_each_phase_is_made_of_the_one_ahead(self):
        load = (13, 8, 0)
        for phase in phases_of(load):
            self.assertEqual(phase, behind_phase(load))
            load = phase
        self.assertEqual(sum(load), 1)

    def test_a_thousand_phases_are_told(self):
        phases = phases_of((1000, 1, 0))
        self.assertEqual(len(phases), 1000)
        self.assertEqual(phases[0], (999, 0, 1))
        self.assertEqual(phases[-1], (0, 1, 0))

    def test_one_phase_more_is_too_many(self):
        for load in [(1001, 1, 0), (2002, 2, 0), (GREAT, 1, 0), (0, 10 ** 59, 3)]:
            with self.subTest(load=load):
                self.assertRaises(TooMany, phases_of, load)

    def test_stuck_behind_a_thousand_phases_is_still_told(self):
        with self.assertRaises(Stuck) as caught:
            phases_of((2000, 2, 0))
        self.assertEqual(caught.exception.at, 1000)
        self.assertEqual(caught.exception.load, (0, 2, 0))

    def test_what_is_told_is_the_askers_own(self):
        load = (2, 1, 0)
        told = phases_of(load)
        told.append("more")
        told[0] = None
        self.assertEqual(phases_of(load), [(1, 0, 1), (0, 1, 0)])
        self.assertEqual(load, (2, 1, 0))
        phases_of((1, 0, 0)).append("more")
        self.assertEqual(phases_of((1, 0, 0)), [])

    def test_a_refusal_changes_nothing(self):
        for again in range(2):
            self.assertRaises(Stuck, phases_of, (2, 2, 0))
            self.assertRaises(TooMany, phases_of, (1001, 1, 0))
        self.assertEqual(phases_of((2, 1, 0)), [(1, 0, 1), (0, 1, 0)])


class IsEvenTest(unittest.TestCase):
    def test_even_loads(self):
        for load in [(1, 0, 0), (0, 1, 0, 0, 0, 0), (2, 1, 0), (0, 5, 3), (1, 1, 1, 0), (1000, 1, 0),
                     (0, 4, 4, 4, 3, 2)]:
            with self.subTest(load=load):
                self.assertIs(is_even(load), True)

    def test_loads_that_do_not_come_out_even(self):
        for load, at, behind in NOT_EVEN + [((2000, 2, 0), 1000, (0, 2, 0))]:
            with self.subTest(load=load):
                self.assertIs(is_even(load), False)

    def test_too_many_phases_are_refused(self):
        for load in [(1001, 1, 0), (2002, 2, 0), (GREAT, 1, 0)]:
            with self.subTest(load=load):
                self.assertRaises(TooMany, is_even, load)

    def test_even_loads_are_just_those_come_to_backward(self):
        for tapes, runs in [(3, 20), (4, 13), (5, 10), (6, 9)]:
            with self.subTest(tapes=tapes):
                even = [load for load in loads_within(tapes, runs) if is_even(load)]
                self.assertEqual(even, backward_loads(tapes, runs))

    def test_each_is_come_to_backward_in_just_one_way(self):
        for tapes, runs in [(3, 20), (4, 13), (5, 10), (6, 9)]:
            met = []
            for load in backward_loads(tapes, runs):
                for before in loads_ahead(load):
                    self.assertEqual(phases_of(before), [load] + phases_of(load))
                    met.append(before)
            self.assertEqual(len(met), len(set(met)))


if __name__ == "__main__":
    unittest.main()
