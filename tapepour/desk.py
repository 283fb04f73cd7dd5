"""The desk: it is told rows of words, and answers with texts."""

from tapepour.errors import NoNumber, NoRow
from tapepour.evens import made_up
from tapepour.fewest import fewest_pours
from tapepour.hall import MOST_PLACES, MOST_RUNS, Hall
from tapepour.loads import phases_of
from tapepour.notes import LEAST_TAPES, MOST_TAPES, number_of, read_pour, shown_load, shown_plan, shown_pour, shown_tape

MOST_FIGURES = 9
GREATEST = 999999999
MOST_BOUND = 5
MOST_POURED_RUNS = 40


def number_in(word, least, most):
    """The number that a word writes, within these bounds."""
    number = None
    if len(word.removeprefix("-")) <= MOST_FIGURES:
        number = number_of(word)
    if number is None or not least <= number <= most:
        raise NoNumber(f"here a number from {least} to {most} should stand")
    return number


def load_in(words):
    """The load that these words write."""
    return tuple([number_in(word, 0, GREATEST) for word in words])


def say_hall(desk, words):
    desk.hall = Hall(number_in(words[0], LEAST_TAPES, MOST_TAPES))
    return []


def say_lay(desk, words):
    store = number_in(words[0], 1, MOST_PLACES)
    keys = [number_in(word, -GREATEST, GREATEST) for word in words[1:]]
    desk.hall.do(("lay", [(key, mark) for mark, key in enumerate(keys)], store))
    return []


def say_pour(desk, words):
    desk.hall.do(("pour", read_pour(words[0])))
    return []


def say_phase(desk, words):
    desk.hall.do(("phase",))
    return []


def say_take(desk, words):
    filled = [tape for tape, number in enumerate(desk.hall.load_now()) if number > 0]
    taken = desk.hall.do(("take", filled[0] if filled else 0))
    return [" ".join([str(key) for key, mark in taken])]


def say_undo(desk, words):
    desk.hall.undo()
    return []


def say_tapes(desk, words):
    return [shown_tape(tape) for tape in desk.hall.tapes_now()]


def say_load(desk, words):
    return [shown_load(desk.hall.load_now())]


def say_cost(desk, words):
    return [str(desk.hall.cost_now())]


def row_of(deed):
    """The row that does a deed."""
    if deed[0] == "lay":
        word, items, store = deed
        return " ".join([word, str(store)] + [str(key) for key, mark in items])
    if deed[0] == "pour":
        word, pour = deed
        return f"{word} {shown_pour(pour)}"
    return deed[0]


def say_log(desk, words):
    return [row_of(deed) for deed in desk.hall.log_now()]


def say_even(desk, words):
    return [str(len(phases_of(load_in(words))))]


def say_makeup(desk, words):
    tapes = number_in(words[0], LEAST_TAPES, MOST_TAPES)
    runs = number_in(words[1], 1, MOST_RUNS)
    load, dummies, phases = made_up(tapes, runs)
    return [f"{shown_load(load)} / {dummies} / {phases}"]


def say_fewest(desk, words):
    bound = number_in(words[0], 0, MOST_BOUND)
    load = load_in(words[1:])
    if not 1 <= sum(load) <= MOST_POURED_RUNS:
        raise NoNumber(f"the load should have 1 to {MOST_POURED_RUNS} runs in all")
    plan = fewest_pours(load, bound)
    return ["none" if plan is None else shown_plan(plan)]


ANSWERS = {
    "hall": say_hall, "lay": say_lay, "pour": say_pour, "phase": say_phase, "take": say_take, "undo": say_undo,
    "tapes": say_tapes, "load": say_load, "cost": say_cost, "log": say_log,
    "even": say_even, "makeup": say_makeup, "fewest": say_fewest,
}
# The fewest and the most words behind the first one; None where there may be any more.
BEHIND = {
    "hall": (1, 1), "lay": (2, None), "pour": (1, 1), "phase": (0, 0), "take": (0, 0), "undo": (0, 0),
    "tapes": (0, 0), "load": (0, 0), "cost": (0, 0), "log": (0, 0),
    "even": (3, 6), "makeup": (2, 2), "fewest": (4, 7),
}


def is_row(words):
    """Whether these words begin as a row does and are as many as it has."""
    if "" in words or words[0] not in BEHIND:
        return False
    least, most = BEHIND[words[0]]
    behind = len(words) - 1
    return least <= behind and (most is None or behind <= most)


class Desk:
    """A hall, at first one of the fewest tapes, that is told rows."""

    def __init__(self):
        self.hall = Hall(LEAST_TAPES)

    def say(self, row):
        """Does what a row says, and answers with a list of texts."""
        words = row.split(" ")
        if not is_row(words):
            raise NoRow("this is none of the rows that the desk knows")
        answer = ANSWERS[words[0]]
        return answer(self, words[1:])
