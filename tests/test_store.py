import heapq
import itertools
import unittest

from tapepour.runs import is_run, stretches
from tapepour.store import made_runs

GREAT = 10 ** 60 - 1


def items_of(*keys):
    return [(key, 0) for key in keys]


def runs_by_heap(items, places):
    """The same runs, come to in another way: each item is told its run when it is taken in."""
    heap = [(0, item) for item in items[:places]]
    heapq.heapify(heap)
    waiting = list(items[places:])
    runs = []
    while heap:
        number, given = heapq.heappop(heap)
        if number == len(runs):
            runs.append([])
        runs[number].append(given)
        if waiting:
            item = waiting.pop(0)
            heapq.heappush(heap, (number if item >= given else number + 1, item))
    return runs


def small_rows():
    for many in range(7):
        for keys in itertools.product(range(3), repeat=many):
            yield items_of(*keys)
    for keys in itertools.permutations(range(6)):
        yield items_of(*keys)


def mixed_row(many):
    return [(at * 7919 % 401 - 200, at % 3 - 1) for at in range(many)]


class MadeRunsTest(unittest.TestCase):
    def test_of_no_items_there_are_none(self):
        self.assertEqual(made_runs([], 1), [])
        self.assertEqual(made_runs([], 20), [])

    def test_one_item_is_one_run(self):
        for places in (1, 2, 20):
            self.assertEqual(made_runs([(-3, 4)], places), [[(-3, 4)]])

    def test_an_item_too_small_waits_for_the_next_run(self):
        self.assertEqual(made_runs(items_of(5, 1, 4, 0, 6), 2), [items_of(1, 4, 5, 6), items_of(0)])

    def test_a_longer_row(self):
        row = items_of(7, 3, 9, 1, 8, 2, 6, 4, 5, 0)
        self.assertEqual(made_runs(row, 3),
                         [items_of(3, 7, 8, 9), items_of(1, 2, 4, 5, 6), items_of(0)])

    def test_an_item_alike_the_last_one_goes_on_with_the_run(self):
        self.assertEqual(made_runs(items_of(2, 2, 2, 1), 1), [items_of(2, 2, 2), items_of(1)])
        self.assertEqual(made_runs([(2, 1), (2, 1), (2, 0), (2, 1)], 2),
                         [[(2, 1), (2, 1), (2, 1)], [(2, 0)]])

    def test_marks_order_items_of_one_key(self):
        self.assertEqual(made_runs([(1, 5), (1, 2), (1, 3)], 1), [[(1, 5)], [(1, 2), (1, 3)]])
        self.assertEqual(made_runs([(1, 5), (1, 2), (1, 3)], 2), [[(1, 2), (1, 3), (1, 5)]])

    def test_numbers_below_nought_and_of_sixty_figures(self):
        row = [(GREAT, 0), (-GREAT, GREAT), (-GREAT, -GREAT), (-1, 0)]
        self.assertEqual(made_runs(row, 1), [row[:1], row[1:2], row[2:]])
        self.assertEqual(made_runs(row, 2),
                         [[(-GREAT, GREAT), (GREAT, 0)], [(-GREAT, -GREAT), (-1, 0)]])

    def test_a_store_of_one_place_makes_the_stretches(self):
        for row in small_rows():
            self.assertEqual(made_runs(row, 1), stretches(row))

    def test_a_store_that_holds_the_whole_row_makes_one_run(self):
        row = mixed_row(20)
        self.assertEqual(made_runs(row, 20), [sorted(row)])
        self.assertEqual(made_runs(row[:7], 20), [sorted(row[:7])])

    def test_a_row_in_order_is_one_run(self):
        row = sorted(mixed_row(400))
        for places in (1, 2, 3, 19, 20):
            self.assertEqual(made_runs(row, places), [row])

    def test_a_row_put_the_other_way_about_makes_runs_of_as_many_as_places(self):
        row = items_of(*range(60, 0, -1))
        for places in (1, 2, 3, 20):
            told = [sorted(row[at:at + places]) for at in range(0, 60, places)]
            self.assertEqual(made_runs(row, places), told)

    def test_a_store_of_twenty_places_and_one_item_more(self):
        row = items_of(*range(20, -1, -1))
        self.assertEqual(made_runs(row, 20), [items_of(*range(1, 21)), items_of(0)])

    def test_small_rows_as_told_by_another_way(self):
        for row in small_rows():
            for places in (1, 2, 3, 4):
                self.assertEqual(made_runs(row, places), runs_by_heap(row, places), (row, places))

    def test_long_rows_as_told_by_another_way(self):
        row = mixed_row(400)
        for places in range(1, 21):
            self.assertEqual(made_runs(row, places), runs_by_heap(row, places), places)

    def test_what_holds_of_all_runs(self):
        for row in list(small_rows()) + [mixed_row(400)]:
            for places in (2, 3, 20):
                runs = made_runs(row, places)
                self.assertEqual(sorted([item for run in runs for item in run]), sorted(row))
                self.assertTrue(all(run and is_run(run) for run in runs))
                self.assertTrue(all(len(run) >= places for run in runs[:-1]))
                for ahead, behind in zip(runs, runs[1:]):
                    self.assertLess(behind[0], ahead[-1])

    def test_what_is_handed_in_stays(self):
        row = mixed_row(30)
        for places in (1, 4, 20):
            made_runs(row, places)
            self.assertEqual(row, mixed_row(30))

    def test_what_is_told_is_the_askers_own(self):
        row = items_of(1, 2, 0)
        told = made_runs(row, 1)
        told[0].append((9, 9))
        told.pop()
        self.assertEqual(row, items_of(1, 2, 0))
        self.assertEqual(made_runs(row, 1), [items_of(1, 2), items_of(0)])
        again = made_runs(row, 1)
        row.clear()
        self.assertEqual(again, [items_of(1, 2), items_of(0)])


if __name__ == "__main__":
    unittest.main()
