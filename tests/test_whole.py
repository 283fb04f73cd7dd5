import itertools
import random
import unittest

from tapepour.backward import done_back, ways_of
from tapepour.desk import Desk
from tapepour.errors import NoDeed, Stuck, TapeError
from tapepour.evens import come_back, even_loads, made_up, poured_into
from tapepour.fewest import fewest_pours
from tapepour.hall import Hall
from tapepour.lengths import cost_of, lengths_behind, lengths_of, weights_of
from tapepour.loads import is_even, phases_of
from tapepour.notes import read_load, read_plan, read_tapes, shown_load, shown_plan, shown_tapes
from tapepour.plans import done_on, load_behind, load_of, plan_of
from tapepour.runs import is_run
from tapepour.store import made_runs


def told_by(hall):
    return hall.tapes_now(), hall.load_now(), hall.cost_now(), hall.log_now()


def make_phases(hall):
    """Phases till none can be made; how many there were."""
    for made in itertools.count():
        try:
            hall.do(("phase",))
        except Stuck:
            return made


def mixed_rows():
    """Rows of items, the number of tapes and the places of a store."""
    source = random.Random(3)
    for case in range(200):
        many, places = source.randrange(3, 7), source.randrange(1, 21)
        length = source.choice([1, 2, 3, 10, 50, 150])
        spread = source.choice([1, 3, 1000, 10 ** 60])
        items = [(source.randrange(-spread, spread), source.randrange(-spread, spread)) for item in range(length)]
        source.choice([items.sort, items.reverse, lambda: items.sort(reverse=True)])()
        yield many, places, items
    for many in range(3, 7):
        yield many, 1, [(-key, 0) for key in range(200)]


class HallThroughTest(unittest.TestCase):
    def test_lay_phases_take(self):
        for many, places, items in mixed_rows():
            hall = Hall(many)
            hall.do(("lay", items, places))
            laid, load = hall.tapes_now(), hall.load_now()
            runs = made_runs(items, places)
            self.assertEqual([run for tape in laid for run in tape if run], runs)
            self.assertEqual((load, sum(load) - len(runs)), made_up(many, len(runs))[:2])
            self.assertEqual(make_phases(hall), made_up(many, len(runs))[2])
            self.assertEqual(sum(hall.load_now()), 1)
            self.assertEqual(hall.cost_now(), cost_of(lengths_of(laid), plan_of(load)))
            self.assertEqual(hall.tapes_now(), done_on(laid, plan_of(load)))
            self.assertEqual(hall.do(("take", hall.load_now().index(1))), sorted(items))
            self.assertEqual(told_by(hall.done_again()), told_by(hall))

    def test_undone_and_done_again(self):
        for many, places, items in itertools.islice(mixed_rows(), 60):
            hall = Hall(many)
            hall.do(("lay", items, places))
            make_phases(hall)
            hall.do(("take", hall.load_now().index(1)))
            hall.do(("lay", items[::-1], places))
            make_phases(hall)
            while hall.log_now():
                log, again = hall.log_now(), hall.done_again()
                self.assertEqual(told_by(again), told_by(hall))
                hall.undo()
                self.assertEqual(hall.log_now(), log[:-1])
            self.assertEqual(told_by(hall), told_by(Hall(many)))
            self.assertRaises(NoDeed, hall.undo)

    def test_back_to_front(self):
        for many, places, items in mixed_rows():
            hall = Hall(many)
            hall.do(("lay", items, places))
            laid, load = hall.tapes_now(), hall.load_now()
            directed = [[(way, run if way == "up" else run[::-1]) for way, run in zip(row, tape)]
                        for row, tape in zip(ways_of(load), laid)]
            end = [directed_run for tape in done_back(directed, plan_of(load)) for directed_run in tape]
            self.assertEqual(end, [("up", sorted(items))])

    def test_texts_of_a_hall(self):
        for many, places, items in itertools.islice(mixed_rows(), 60):
            hall = Hall(many)
            hall.do(("lay", items, places))
            for phase in range(3):
                self.assertEqual(read_tapes(shown_tapes(hall.tapes_now())), hall.tapes_now())
                self.assertEqual(read_load(shown_load(hall.load_now())), hall.load_now())
                plan = plan_of(hall.load_now())
                self.assertEqual(read_plan(shown_plan(plan)), plan)
                if plan:
                    hall.do(("phase",))


class DeskThroughTest(unittest.TestCase):
    def test_lay_phases_take(self):
        source = random.Random(11)
        for case in range(100):
            many, places = source.randrange(3, 7), source.randrange(1, 21)
            keys = [source.randrange(-999999999, 10 ** 9) for key in range(source.choice([1, 2, 9, 40, 120]))]
            desk = Desk()
            desk.say(f"hall {many}")
            desk.say(" ".join(["lay", str(places)] + [str(key) for key in keys]))
            load = desk.say("load")[0]
            tapes = read_tapes("\n".join(desk.say("tapes")))
            phases = int(desk.say(f"even {load}")[0])
            for phase in range(phases):
                self.assertEqual(desk.say("phase"), [])
            with self.assertRaises(Stuck):
                desk.say("phase")
            self.assertEqual(desk.say("cost"), [str(cost_of(lengths_of(tapes), plan_of(read_load(load))))])
            self.assertEqual(desk.say("take"), [" ".join(str(key) for key in sorted(keys))])
            again = Desk()
            again.say(f"hall {many}")
            for row in desk.say("log"):
                again.say(row)
            for row in ("tapes", "load", "cost", "log"):
                self.assertEqual(again.say(row), desk.say(row))

    def test_the_fewest_pours_said_to_the_desk(self):
        desk = Desk()
        desk.say("hall 4")
        desk.say("lay 1 5 4 3 2 1")
        self.assertEqual(desk.say("load"), ["2 2 1 0"])
        for text in desk.say("fewest 5 2 2 1 0")[0].split("; "):
            self.assertEqual(desk.say(f"pour {text}"), [])
        self.assertEqual(desk.say("take"), ["1 2 3 4 5"])


class PromiseTest(unittest.TestCase):
    def test_runs_made_are_in_order_and_have_each_item_once(self):
        for many, places, items in mixed_rows():
            runs = made_runs(items, places)
            self.assertTrue(all(is_run(run) for run in runs))
            self.assertEqual(sorted(item for run in runs for item in run), sorted(items))
            for ahead, behind in zip(runs, runs[1:]):
                self.assertGreaterEqual(len(ahead), places)
                self.assertLess(behind[0], ahead[-1])

    def test_even_loads_are_come_to_in_just_one_way(self):
        for many in (3, 4):
            seen = {}
            for phases in range(5):
                for begin in range(many):
                    for row in itertools.product(range(many), repeat=phases):
                        load = self.come_back_or_none(many, begin, row)
                        if load is not None:
                            self.assertNotIn(load, seen)
                            seen[load] = list(row)
            for load in itertools.product(range(9), repeat=many):
                if is_even(load) and len(phases_of(load)) < 5:
                    self.assertEqual(seen[load], poured_into(load))

    def come_back_or_none(self, many, begin, row):
        load = come_back(many, begin, [])
        for at, tape in enumerate(row):
            if load[tape] == 0:
                return None
            load = come_back(many, begin, list(row[:at + 1]))
        return load

    def test_plans_do_to_lengths_and_loads_what_they_do_to_tapes(self):
        source = random.Random(17)
        loads = [load for many in range(3, 7) for phases in range(5) for load in even_loads(many, phases)]
        for load in loads:
            tapes = [[sorted((source.randrange(9), 0) for item in range(source.randrange(4))) for run in range(number)]
                     for number in load]
            plan = plan_of(load)
            for some in (plan, plan[:1], plan[:-1]):
                behind = done_on(tapes, some)
                self.assertEqual(lengths_of(behind), lengths_behind(lengths_of(tapes), some))
                self.assertEqual(load_of(behind), load_behind(load, some))
                self.assertEqual(sorted(item for tape in behind for run in tape for item in run),
                                 sorted(item for tape in tapes for run in tape for item in run))
            cost = sum(weight * len(run) for row, tape in zip(weights_of(load, plan), tapes)
                       for weight, run in zip(row, tape))
            self.assertEqual(cost_of(lengths_of(tapes), plan), cost)

    def test_no_row_of_fewer_pours(self):
        for load in itertools.product(range(4), repeat=3):
            if sum(load) == 0:
                continue
            told = fewest_pours(load, 3)
            within = [bound for bound in range(4) if fewest_pours(load, bound) is not None]
            self.assertEqual(within, [] if told is None else list(range(len(told), 4)))
            if told is not None:
                self.assertEqual(sum(load_behind(load, told)), 1)

    def test_every_refusal_is_the_programs(self):
        desk = Desk()
        for row in ("", "hall 9", "pour x", "pour 0>1*1", "pour 5>4*1", "phase", "take", "undo", "even 2 2 0"):
            with self.assertRaises(TapeError):
                desk.say(row)
            with self.assertRaises(ValueError):
                desk.say(row)


if __name__ == "__main__":
    unittest.main()
