import itertools
import unittest

from tapepour.runs import is_run, pour_runs, stretches

GREAT = 10 ** 60 - 1
ITEMS = [(0, 0), (0, 1), (1, 0), (1, 1)]


def rows_up_to(length):
    for many in range(length + 1):
        for row in itertools.product(ITEMS, repeat=many):
            yield list(row)


class IsRunTest(unittest.TestCase):
    def test_no_items_and_one_item_are_runs(self):
        self.assertIs(is_run([]), True)
        self.assertIs(is_run([(5, 0)]), True)

    def test_rising_items_are_a_run(self):
        self.assertIs(is_run([(1, 9), (2, 0), (2, 3), (7, -4)]), True)

    def test_alike_items_may_stand_side_by_side(self):
        self.assertIs(is_run([(2, 2), (2, 2), (2, 2)]), True)

    def test_falling_keys_are_no_run(self):
        self.assertIs(is_run([(2, 0), (1, 5)]), False)

    def test_falling_marks_of_one_key_are_no_run(self):
        self.assertIs(is_run([(2, 1), (2, 0)]), False)

    def test_a_fall_anywhere_is_told(self):
        self.assertIs(is_run([(5, 0), (1, 0), (2, 0), (3, 0)]), False)
        self.assertIs(is_run([(1, 0), (5, 0), (2, 0), (6, 0)]), False)
        self.assertIs(is_run([(1, 0), (2, 0), (3, 0), (0, 0)]), False)

    def test_numbers_below_nought_and_of_sixty_figures(self):
        self.assertIs(is_run([(-GREAT, 0), (-1, -GREAT), (-1, GREAT), (GREAT, GREAT)]), True)
        self.assertIs(is_run([(-1, 0), (-2, 0)]), False)
        self.assertIs(is_run([(GREAT, GREAT), (GREAT, GREAT - 1)]), False)

    def test_small_rows_one_by_one(self):
        for row in rows_up_to(4):
            self.assertIs(is_run(row), row == sorted(row), row)

    def test_what_is_handed_in_stays(self):
        row = [(2, 0), (1, 0)]
        is_run(row)
        self.assertEqual(row, [(2, 0), (1, 0)])


class PourRunsTest(unittest.TestCase):
    def test_no_runs_and_dummies_alone_are_a_dummy(self):
        self.assertEqual(pour_runs([]), [])
        self.assertEqual(pour_runs([[]]), [])
        self.assertEqual(pour_runs([[], [], []]), [])

    def test_runs_are_poured_together(self):
        poured = pour_runs([[(1, 0), (4, 0)], [(2, 0), (3, 0), (9, 0)]])
        self.assertEqual(poured, [(1, 0), (2, 0), (3, 0), (4, 0), (9, 0)])

    def test_dummies_among_them_add_nothing(self):
        self.assertEqual(pour_runs([[], [(2, 0)], [], [(1, 0)], []]), [(1, 0), (2, 0)])

    def test_alike_items_are_all_kept(self):
        poured = pour_runs([[(1, 1), (1, 1)], [(1, 1)], [(1, 0), (1, 2)]])
        self.assertEqual(poured, [(1, 0), (1, 1), (1, 1), (1, 1), (1, 2)])

    def test_numbers_below_nought_and_of_sixty_figures(self):
        poured = pour_runs([[(-1, GREAT), (GREAT, 0)], [(-GREAT, 5), (-1, -GREAT)]])
        self.assertEqual(poured, [(-GREAT, 5), (-1, -GREAT), (-1, GREAT), (GREAT, 0)])

    def test_the_order_in_which_they_are_told_is_free(self):
        runs = [[(3, 0), (3, 0)], [], [(1, 7), (3, -1)], [(-2, 0), (8, 0)]]
        told = [(-2, 0), (1, 7), (3, -1), (3, 0), (3, 0), (8, 0)]
        for order in itertools.permutations(runs):
            self.assertEqual(pour_runs(list(order)), told)

    def test_they_may_be_poured_by_and_by(self):
        first, second, third = [(1, 0), (6, 0)], [(2, 0), (6, 0)], [(0, 0), (7, 0)]
        at_once = pour_runs([first, second, third])
        self.assertEqual(pour_runs([pour_runs([first, second]), third]), at_once)
        self.assertEqual(pour_runs([first, pour_runs([second, third])]), at_once)

    def test_what_is_poured_is_a_run(self):
        runs = [row for row in rows_up_to(2) if is_run(row)]
        for first, second in itertools.product(runs, repeat=2):
            poured = pour_runs([first, second])
            self.assertTrue(is_run(poured))
            self.assertEqual(sorted(first + second), poured)

    def test_what_is_handed_in_stays(self):
        runs = [[(5, 0)], [], [(1, 0), (2, 0)]]
        pour_runs(runs)
        self.assertEqual(runs, [[(5, 0)], [], [(1, 0), (2, 0)]])

    def test_what_is_told_is_the_askers_own(self):
        run = [(1, 0), (2, 0)]
        poured = pour_runs([run])
        poured.append((9, 9))
        self.assertEqual(run, [(1, 0), (2, 0)])
        self.assertEqual(pour_runs([run]), [(1, 0), (2, 0)])
        again = pour_runs([run])
        run.append((3, 0))
        self.assertEqual(again, [(1, 0), (2, 0)])


class StretchesTest(unittest.TestCase):
    def test_of_no_items_there_are_none(self):
        self.assertEqual(stretches([]), [])

    def test_one_item_is_one_stretch(self):
        self.assertEqual(stretches([(4, 0)]), [[(4, 0)]])

    def test_a_row_is_cut_where_it_falls(self):
        row = [(3, 0), (5, 0), (4, 0), (4, 1), (9, 0), (1, 0)]
        self.assertEqual(stretches(row), [[(3, 0), (5, 0)], [(4, 0), (4, 1), (9, 0)], [(1, 0)]])

    def test_a_row_in_order_is_one_stretch(self):
        row = [(key, 0) for key in range(400)]
        self.assertEqual(stretches(row), [row])

    def test_a_row_put_the_other_way_about_is_cut_everywhere(self):
        row = [(-key, 0) for key in range(400)]
        self.assertEqual(stretches(row), [[item] for item in row])

    def test_alike_items_side_by_side_stay_together(self):
        self.assertEqual(stretches([(1, 1), (1, 1), (1, 0), (1, 0)]),
                         [[(1, 1), (1, 1)], [(1, 0), (1, 0)]])

    def test_numbers_below_nought_and_of_sixty_figures(self):
        row = [(-GREAT, 0), (GREAT, GREAT), (GREAT, -GREAT), (-1, 0), (-1, -1)]
        self.assertEqual(stretches(row), [row[:2], row[2:3], row[3:4], row[4:]])

    def test_small_rows_one_by_one(self):
        for row in rows_up_to(5):
            told = stretches(row)
            self.assertEqual([item for run in told for item in run], row)
            for run in told:
                self.assertEqual(run, sorted(run))
                self.assertNotEqual(run, [])
            for ahead, behind in zip(told, told[1:]):
                self.assertGreater(ahead[-1], behind[0])

    def test_what_is_handed_in_stays(self):
        row = [(2, 0), (1, 0), (3, 0)]
        stretches(row)
        self.assertEqual(row, [(2, 0), (1, 0), (3, 0)])

    def test_what_is_told_is_the_askers_own(self):
        row = [(1, 0), (2, 0)]
        told = stretches(row)
        told[0].append((9, 9))
        told.append([])
        self.assertEqual(row, [(1, 0), (2, 0)])
        self.assertEqual(stretches(row), [[(1, 0), (2, 0)]])
        again = stretches(row)
        row.append((3, 0))
        self.assertEqual(again, [[(1, 0), (2, 0)]])


if __name__ == "__main__":
    unittest.main()
