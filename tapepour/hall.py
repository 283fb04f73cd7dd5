"""The hall: a few tapes, the deeds done on them, and what they cost."""

from tapepour.errors import Busy, NoDeed, NoItems, NoNumber, Stuck, TooMany
from tapepour.evens import made_up
from tapepour.loads import phase_of
from tapepour.plans import check_pour, is_tape, is_whole, load_of, pour_of_phase, pour_times
from tapepour.runs import pour_runs
from tapepour.store import made_runs

MOST_PLACES = 20
MOST_RUNS = 200


def bare_tapes(many):
    """So many tapes without runs."""
    return [[] for tape in range(many)]


def dummies_fallen(load, dummies):
    """How many of the dummies fall to each tape, one to each in turn."""
    fallen = [0] * len(load)
    while sum(fallen) < dummies:
        for tape, number in enumerate(load):
            if fallen[tape] < number and sum(fallen) < dummies:
                fallen[tape] += 1
    return fallen


def laid_tapes(many, runs):
    """So many tapes with these runs, made up with dummies, laid on them."""
    load, dummies, phases = made_up(many, len(runs))
    tapes = []
    laid = 0
    for number, fallen in zip(load, dummies_fallen(load, dummies)):
        further = laid + number - fallen
        tapes.append([[] for dummy in range(fallen)] + runs[laid:further])
        laid = further
    return tapes


# What a deed does is told as (tapes, cost, answer); the tapes that it is given are never changed,
# since undoing brings them back.


def lay(tapes, items, store):
    """The items' runs laid on bare tapes."""
    if sum(load_of(tapes)) > 0:
        raise Busy("a tape is not bare")
    if not items:
        raise NoItems("there is no item to lay")
    if not is_whole(store) or not 1 <= store <= MOST_PLACES:
        raise NoNumber(f"a store has 1 to {MOST_PLACES} places")
    runs = made_runs(items, store)
    if len(runs) > MOST_RUNS:
        raise TooMany(f"there are more than {MOST_RUNS} runs")
    return laid_tapes(len(tapes), runs), 0, None


def pour_freely(tapes, pour):
    """A pour done that is known to be one that can be done."""
    now = list(tapes)
    put = pour_times(now, pour, pour_runs)
    return now, sum([len(run) for run in put]), None


def pour_once(tapes, pour):
    """One pour done, as a plan of this pour alone."""
    check_pour(load_of(tapes), pour, 0)
    return pour_freely(tapes, pour)


def make_phase(tapes):
    """One phase made."""
    load = load_of(tapes)
    if phase_of(load) is None:
        raise Stuck(0, load)
    return pour_freely(tapes, pour_of_phase(load))


def take_away(tapes, tape):
    """The one run that is left taken away from its tape."""
    load = load_of(tapes)
    if not is_tape(tape, len(tapes)) or load[tape] != 1 or sum(load) != 1:
        raise Busy("this tape has not the one run that is left")
    return bare_tapes(len(tapes)), 0, list(tapes[tape][0])


ACTIONS = {"lay": lay, "pour": pour_once, "phase": make_phase, "take": take_away}
THINGS = {"lay": 3, "pour": 2, "phase": 1, "take": 2}


def is_deed(deed):
    """Whether a tuple begins with the word of a deed and has as many things as it needs."""
    # What stands first may be of any kind, one that can't be looked up too.
    if not isinstance(deed, tuple) or not deed or not isinstance(deed[0], str):
        return False
    return THINGS.get(deed[0]) == len(deed)


def own_deed(deed):
    """The same deed, with a list of its own where it has one."""
    if deed[0] == "lay":
        word, items, store = deed
        return word, list(items), store
    return deed


class Hall:
    """Tapes, bare at first, on which deeds are done and undone."""

    def __init__(self, many):
        self.tapes = bare_tapes(many)
        self.cost = 0
        self.past = []

    def do(self, deed):
        """Does a deed; tells the items in order that a take takes, else None."""
        if not is_deed(deed):
            raise NoDeed("this is no deed")
        own = own_deed(deed)
        action = ACTIONS[own[0]]
        things = own[1:]
        tapes, cost, answer = action(self.tapes, *things)
        self.past.append((own, self.tapes, self.cost))
        self.tapes = tapes
        self.cost += cost
        return answer

    def undo(self):
        """Undoes the last deed that is not undone."""
        if not self.past:
            raise NoDeed("there is no deed to undo")
        deed, self.tapes, self.cost = self.past.pop()

    def tapes_now(self):
        """The tapes with their runs."""
        return [[list(run) for run in tape] for tape in self.tapes]

    def load_now(self):
        """How many runs lie on each tape."""
        return load_of(self.tapes)

    def cost_now(self):
        """The lengths of all runs put by the pours and phases that are not undone."""
        return self.cost

    def log_now(self):
        """The deeds that were done and are not undone."""
        return [own_deed(deed) for deed, tapes, cost in self.past]

    def done_again(self):
        """A new hall of as many tapes that did all deeds of the log."""
        again = Hall(len(self.tapes))
        for deed in self.log_now():
            again.do(deed)
        return again
