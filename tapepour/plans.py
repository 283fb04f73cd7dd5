"""Plans: pours told as tuples (froms, to, times), done on tapes and on loads."""

from tapepour.errors import Dry, NoPour
from tapepour.loads import loads_ahead, phase_of
from tapepour.runs import pour_runs

MOST_FROMS = 5


def is_whole(thing):
    """Whether this is a whole number, which a truth is not."""
    return isinstance(thing, int) and not isinstance(thing, bool)


def is_tape(thing, many):
    """Whether this is the number of one of so many tapes."""
    return is_whole(thing) and 0 <= thing < many


def are_froms(thing, many):
    """Whether these are one to five unlike numbers of so many tapes, rising."""
    if not isinstance(thing, tuple) or not 1 <= len(thing) <= MOST_FROMS:
        return False
    if not all([is_tape(tape, many) for tape in thing]):
        return False
    return all([ahead < behind for ahead, behind in zip(thing, thing[1:])])


def is_pour(thing, many):
    """Whether this is a pour for so many tapes."""
    if not isinstance(thing, tuple) or len(thing) != 3:
        return False
    froms, to, times = thing
    if not are_froms(froms, many) or not is_tape(to, many) or to in froms:
        return False
    return is_whole(times) and times >= 1


def check_pour(load, pour, at):
    """Refuses what stands at this place of a plan where it can't be done on the load."""
    if not is_pour(pour, len(load)):
        raise NoPour(at)
    froms, to, times = pour
    # No pour puts a run on one of its own froms, so what they have now must do for all times.
    if min([load[tape] for tape in froms]) < times:
        raise Dry(at)


def pour_times(tapes, pour, together):
    """Does a pour on the tapes themselves, and tells what it put, from the first to the last."""
    froms, to, times = pour
    taken = [tapes[tape][:times] for tape in froms]
    put = [together(list(runs)) for runs in zip(*taken)]
    for tape in froms:
        tapes[tape] = tapes[tape][times:]
    tapes[to] = tapes[to] + put
    return put


def done_plan(tapes, plan, together):
    """The tapes behind a plan and a list of all that it put; together makes one run of several.

    What stands for a run is whatever together takes: items or a length.
    """
    now = [list(tape) for tape in tapes]
    put = []
    for at, pour in enumerate(plan):
        check_pour(load_of(now), pour, at)
        put.extend(pour_times(now, pour, together))
    return now, put


def done_on(tapes, plan):
    """The tapes behind a plan."""
    own = [[list(run) for run in tape] for tape in tapes]
    behind, put = done_plan(own, plan, pour_runs)
    return behind


def load_of(tapes):
    """How many runs lie on each tape."""
    return tuple([len(tape) for tape in tapes])


def behind_pour(load, pour):
    """The load behind a pour that can be done on it."""
    froms, to, times = pour
    numbers = list(load)
    for tape in froms:
        numbers[tape] -= times
    numbers[to] += times
    return tuple(numbers)


def load_behind(load, plan):
    """The load behind a plan."""
    now = load
    for at, pour in enumerate(plan):
        check_pour(now, pour, at)
        now = behind_pour(now, pour)
    return now


def pour_of_phase(load):
    """The pour that makes the phase of a load."""
    bare, pours = phase_of(load)
    return tuple([tape for tape in range(len(load)) if tape != bare]), bare, pours


def plan_of(load):
    """The plan of an even load, one pour for each phase."""
    return [pour_of_phase(ahead) for ahead in loads_ahead(load)]
