import itertools
import unittest

from tapepour.errors import Stuck, TapeError, TooMany
from tapepour.evens import come_back, even_loads, fullest_load, made_up, poured_into
from tapepour.loads import is_even, phases_of

GREAT = 10 ** 60 - 1

# Told by trying all loads one by one, apart from the program.
MADE_UP = [
    (3, 1, ((1, 0, 0), 0, 0)), (3, 2, ((1, 1, 0), 0, 1)), (3, 3, ((2, 1, 0), 0, 2)),
    (3, 50, ((31, 19, 0), 0, 8)), (3, 199, ((144, 55, 0), 0, 11)), (3, 200, ((147, 53, 0), 0, 12)),
    (4, 1, ((1, 0, 0, 0), 0, 0)), (4, 2, ((1, 1, 1, 0), 1, 1)), (4, 3, ((1, 1, 1, 0), 0, 1)),
    (4, 100, ((42, 36, 23, 0), 1, 7)), (4, 150, ((75, 55, 21, 0), 1, 9)),
    (4, 199, ((97, 63, 39, 0), 0, 9)), (4, 200, ((96, 74, 31, 0), 1, 9)),
    (5, 1, ((1, 0, 0, 0, 0), 0, 0)), (5, 2, ((1, 1, 1, 1, 0), 2, 1)), (5, 50, ((17, 17, 13, 5, 0), 2, 6)),
    (5, 197, ((66, 65, 42, 26, 0), 2, 8)), (5, 200, ((67, 59, 43, 33, 0), 2, 8)),
    (6, 1, ((1, 0, 0, 0, 0, 0), 0, 0)), (6, 2, ((1, 1, 1, 1, 1, 0), 3, 1)),
    (6, 50, ((13, 13, 13, 11, 3, 0), 3, 6)), (6, 150, ((38, 38, 36, 26, 15, 0), 3, 7)),
    (6, 197, ((49, 47, 45, 35, 21, 0), 0, 7)), (6, 200, ((50, 50, 42, 36, 23, 0), 1, 7)),
]


def falling_loads(tapes, runs, most):
    """All tuples of so many falling numbers from 0 on, none above most, with this sum."""
    if tapes == 0:
        return [()] if runs == 0 else []
    return [(first,) + rest for first in range(min(runs, most), -1, -1) if first * tapes >= runs
            for rest in falling_loads(tapes - 1, runs - first, first)]


def phases_or_none(load):
    try:
        return len(phases_of(load))
    except TapeError:
        return None


def rows_of(tapes, begin, length):
    """All rows of so many tapes, none of them bare where it comes."""
    rows = [([], tuple(int(tape == begin) for tape in range(tapes)))]
    for step in range(length):
        rows = [(row + [tape], tuple(0 if at == tape else number + load[tape] for at, number in enumerate(load)))
                for row, load in rows for tape in range(tapes) if load[tape] > 0]
    return rows


def made_up_by_trying(tapes, runs):
    """The same, by trying numbers of dummies and all loads one by one."""
    for dummies in itertools.count():
        loads = falling_loads(tapes, runs + dummies, runs + dummies)
        even = [(-phases_or_none(load), load) for load in loads if phases_or_none(load) is not None]
        if even:
            fewest, load = max(even)
            return load, dummies, -fewest


class PouredIntoTest(unittest.TestCase):
    def test_one_run_has_no_phases(self):
        for tapes in range(3, 7):
            for begin in range(tapes):
                load = tuple(int(tape == begin) for tape in range(tapes))
                self.assertEqual(poured_into(load), [])

    def test_from_the_last_phase_to_the_first(self):
        self.assertEqual(poured_into((2, 1, 0)), [1, 2])
        self.assertEqual(poured_into((0, 2, 3)), [2, 1, 0])
        self.assertEqual(poured_into((1, 1, 1, 0)), [3])
        self.assertEqual(poured_into((0, 2, 2, 1)), [3, 0])
        self.assertEqual(poured_into((0, 4, 4, 4, 3, 2)), [4, 5, 0])

    def test_a_thousand_phases(self):
        row = poured_into((1000, 1, 0))
        self.assertEqual(row, [1, 2] * 500)

    def test_a_load_of_sixty_figures(self):
        less, more = 0, 1
        steps = 0
        while less + more <= GREAT:
            less, more = more, less + more
            steps += 1
        row = poured_into((more, less, 0))
        self.assertEqual(len(row), steps)
        self.assertEqual(come_back(3, row[0], row), (more, less, 0))

    def test_one_phase_more_is_too_many(self):
        for load in [(1001, 1, 0), (2002, 2, 0), (GREAT, 1, 0)]:
            self.assertRaises(TooMany, poured_into, load)

    def test_a_load_that_is_not_even_is_stuck(self):
        for load, at, behind in [((0, 0, 0), 0, (0, 0, 0)), ((1, 1, 1), 0, (1, 1, 1)), ((2, 0, 0), 0, (2, 0, 0)),
                                 ((4, 2, 0), 2, (0, 2, 0)), ((5, 3, 2, 1, 0), 2, (3, 1, 0, 1, 0)),
                                 ((2000, 2, 0), 1000, (0, 2, 0)), ((GREAT, GREAT, 0), 1, (0, 0, GREAT))]:
            with self.subTest(load=load):
                with self.assertRaises(Stuck) as caught:
                    poured_into(load)
                self.assertEqual((caught.exception.at, caught.exception.load), (at, behind))

    def test_what_is_told_is_the_askers_own(self):
        load = (2, 1, 0)
        poured_into(load).append(7)
        self.assertEqual(poured_into(load), [1, 2])
        poured_into((1, 0, 0)).append(7)
        self.assertEqual(poured_into((1, 0, 0)), [])


class ComeBackTest(unittest.TestCase):
    def test_without_a_row_it_is_one_run(self):
        self.assertEqual(come_back(3, 0, []), (1, 0, 0))
        self.assertEqual(come_back(3, 2, []), (0, 0, 1))
        self.assertEqual(come_back(6, 5, []), (0, 0, 0, 0, 0, 1))

    def test_by_a_row_of_tapes(self):
        self.assertEqual(come_back(3, 1, [1]), (1, 0, 1))
        self.assertEqual(come_back(3, 1, [1, 2]), (2, 1, 0))
        self.assertEqual(come_back(3, 1, [1, 0]), (0, 1, 2))
        self.assertEqual(come_back(4, 3, [3, 0]), (0, 2, 2, 1))
        self.assertEqual(come_back(6, 4, [4, 5, 0]), (0, 4, 4, 4, 3, 2))

    def test_a_load_is_told_as_a_tuple(self):
        self.assertIsInstance(come_back(3, 0, []), tuple)
        self.assertIsInstance(come_back(3, 0, [0]), tuple)

    def test_a_row_of_four_hundred(self):
        load = come_back(3, 0, [0, 1] * 200)
        self.assertEqual(load, (1, 0, 400))
        great = come_back(3, 0, [0, 1, 2] * 133 + [0])
        self.assertEqual(len(phases_of(great)), 400)

    def test_each_row_comes_to_an_even_load_and_is_told_of_it(self):
        for tapes, most in [(3, 7), (4, 5), (5, 4), (6, 4)]:
            for begin in range(tapes):
                for length in range(most + 1):
                    for row, load in rows_of(tapes, begin, length):
                        self.assertEqual(come_back(tapes, begin, row), load)
                        self.assertEqual(len(phases_of(load)), length)
                        self.assertEqual(poured_into(load), row)

    def test_no_two_rows_come_to_one_load(self):
        for tapes, most in [(3, 7), (4, 5), (5, 4), (6, 4)]:
            loads = [load for begin in range(tapes) for length in range(most + 1)
                     for row, load in rows_of(tapes, begin, length)]
            self.assertEqual(len(loads), len(set(loads)))

    def test_each_even_load_is_come_to(self):
        for tapes, most in [(3, 20), (4, 13), (5, 9), (6, 7)]:
            for load in itertools.product(range(most + 1), repeat=tapes):
                if sum(load) <= most and sum(load) > 1 and is_even(load):
                    row = poured_into(load)
                    self.assertEqual(come_back(tapes, row[0], row), load)

    def test_the_row_stays(self):
        row = [1, 2]
        come_back(3, 1, row)
        self.assertEqual(row, [1, 2])


class EvenLoadsTest(unittest.TestCase):
    def test_no_phases_and_one(self):
        for tapes in range(3, 7):
            self.assertEqual(even_loads(tapes, 0), [(1,) + (0,) * (tapes - 1)])
            self.assertEqual(even_loads(tapes, 1), [(1,) * (tapes - 1) + (0,)])

    def test_a_few_phases(self):
        self.assertEqual(even_loads(3, 2), [(2, 1, 0)])
        self.assertEqual(even_loads(3, 3), [(3, 1, 0), (3, 2, 0)])
        self.assertEqual(even_loads(3, 4), [(4, 1, 0), (4, 3, 0), (5, 2, 0), (5, 3, 0)])
        self.assertEqual(even_loads(4, 2), [(2, 2, 1, 0)])
        self.assertEqual(even_loads(4, 3), [(3, 3, 1, 0), (4, 3, 2, 0)])
        self.assertEqual(even_loads(6, 3), [(3, 3, 3, 3, 1, 0), (4, 4, 4, 3, 2, 0)])

    def test_as_told_by_trying_all_loads(self):
        for tapes, phases in [(3, 5), (3, 6), (4, 4), (4, 5), (5, 4), (6, 3)]:
            with self.subTest(tapes=tapes, phases=phases):
                most = sum(fullest_load(tapes, phases))
                told = [load for runs in range(1, most + 1) for load in falling_loads(tapes, runs, runs)
                        if phases_or_none(load) == phases]
                self.assertEqual(even_loads(tapes, phases), sorted(told))

    def test_six_phases_as_told_by_all_rows(self):
        for tapes in range(3, 7):
            told = {tuple(sorted(load, reverse=True)) for row, load in rows_of(tapes, 0, 6)}
            self.assertEqual(even_loads(tapes, 6), sorted(told))

    def test_sorted_falling_each_once(self):
        for tapes in range(3, 7):
            for phases in range(7):
                loads = even_loads(tapes, phases)
                self.assertEqual(loads, sorted(set(loads)))
                for load in loads:
                    self.assertIsInstance(load, tuple)
                    self.assertEqual(list(load), sorted(load, reverse=True))
                    self.assertEqual(len(load), tapes)
                    self.assertEqual(len(phases_of(load)), phases)

    def test_no_error_somewhat_beyond(self):
        self.assertEqual(len(even_loads(3, 7)), 32)
        self.assertEqual(even_loads(7, 1), [(1, 1, 1, 1, 1, 1, 0)])

    def test_what_is_told_is_the_askers_own(self):
        for phases in (0, 1, 3):
            told = even_loads(3, phases)
            kept = list(told)
            told.append("more")
            told[0] = None
            self.assertEqual(even_loads(3, phases), kept)


class FullestLoadTest(unittest.TestCase):
    def test_no_phases(self):
        for tapes in range(3, 7):
            self.assertEqual(fullest_load(tapes, 0), (1,) + (0,) * (tapes - 1))

    def test_of_several_fullest_tapes_the_first_is_taken(self):
        self.assertEqual([fullest_load(3, phases) for phases in range(1, 6)],
                         [(0, 1, 1), (1, 0, 2), (3, 2, 0), (0, 5, 3), (5, 0, 8)])
        self.assertEqual([fullest_load(4, phases) for phases in range(1, 5)],
                         [(0, 1, 1, 1), (1, 0, 2, 2), (3, 2, 0, 4), (7, 6, 4, 0)])
        self.assertEqual([fullest_load(6, phases) for phases in range(1, 4)],
                         [(0, 1, 1, 1, 1, 1), (1, 0, 2, 2, 2, 2), (3, 2, 0, 4, 4, 4)])

    def test_thirty_phases(self):
        self.assertEqual(fullest_load(3, 30), (1346269, 832040, 0))
        for tapes in range(3, 7):
            self.assertEqual(len(phases_of(fullest_load(tapes, 30))), 30)

    def test_no_even_load_of_as_many_phases_has_more_runs(self):
        for tapes in range(3, 7):
            for phases in range(7):
                fullest = fullest_load(tapes, phases)
                self.assertEqual(sum(fullest), max(sum(load) for load in even_loads(tapes, phases)))

    def test_each_step_adds_the_fullest_tape(self):
        for tapes in range(3, 7):
            for phases in range(30):
                load = fullest_load(tapes, phases)
                at = load.index(max(load))
                told = tuple(0 if tape == at else number + load[at] for tape, number in enumerate(load))
                self.assertEqual(fullest_load(tapes, phases + 1), told)


class MadeUpTest(unittest.TestCase):
    def test_as_told_by_trying_apart_from_the_program(self):
        for tapes, runs, told in MADE_UP:
            with self.subTest(tapes=tapes, runs=runs):
                self.assertEqual(made_up(tapes, runs), told)

    def test_as_told_by_trying_all_loads(self):
        for tapes, most in [(3, 60), (4, 40), (5, 30), (6, 25)]:
            for runs in range(1, most + 1):
                self.assertEqual(made_up(tapes, runs), made_up_by_trying(tapes, runs), (tapes, runs))

    def test_what_holds_of_all_numbers_of_runs(self):
        for tapes in range(3, 7):
            for runs in range(1, 201):
                load, dummies, phases = made_up(tapes, runs)
                self.assertEqual(len(load), tapes)
                self.assertEqual(sum(load), runs + dummies)
                self.assertEqual(list(load), sorted(load, reverse=True))
                self.assertEqual(len(phases_of(load)), phases)
                self.assertEqual((runs + dummies - 1) % (tapes - 2), 0)
                self.assertLess(dummies, tapes - 2)
                self.assertGreaterEqual(dummies, 0)

    def test_none_has_fewer_phases_and_none_of_as_many_is_greater(self):
        for tapes in range(3, 7):
            evens = [even_loads(tapes, phases) for phases in range(11)]
            for runs in range(1, 201):
                load, dummies, phases = made_up(tapes, runs)
                told = [many for many, loads in enumerate(evens) if any(sum(one) == sum(load) for one in loads)]
                if told:
                    self.assertEqual(phases, told[0])
                    self.assertEqual(load, max(one for one in evens[phases] if sum(one) == sum(load)))
                else:
                    self.assertGreater(phases, 10)

    def test_a_load_is_a_tuple_and_all_is_one(self):
        told = made_up(3, 5)
        self.assertIsInstance(told, tuple)
        self.assertIsInstance(told[0], tuple)

    def test_no_error_somewhat_beyond(self):
        self.assertEqual(made_up(3, 0), ((1, 0, 0), 1, 0))
        self.assertEqual(made_up(6, 0), ((1, 0, 0, 0, 0, 0), 1, 0))
        self.assertEqual(made_up(7, 6), ((1, 1, 1, 1, 1, 1, 0), 0, 1))
        load, dummies, phases = made_up(4, 210)
        self.assertEqual((sum(load), dummies, len(phases_of(load))), (211, 1, phases))


if __name__ == "__main__":
    unittest.main()
