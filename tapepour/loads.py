"""Loads, and the phases that the full rule makes of them."""

from tapepour.errors import Stuck, TooMany

MOST_PHASES = 1000


def phase_of(load):
    """The bare tape and how many pours the phase has, or None where no phase can be made."""
    others = [number for number in load if number > 0]
    if not others or len(others) != len(load) - 1:
        return None
    return load.index(0), min(others)


def behind_phase(load):
    """The load behind one phase."""
    phase = phase_of(load)
    if phase is None:
        raise Stuck(0, load)
    bare, pours = phase
    return tuple([pours if tape == bare else number - pours for tape, number in enumerate(load)])


def phases_of(load):
    """The loads behind each phase of a load that comes out even."""
    phases = []
    now = load
    while sum(now) > 1 and phase_of(now) is not None:
        if len(phases) == MOST_PHASES:
            raise TooMany(f"there are more than {MOST_PHASES} phases")
        now = behind_phase(now)
        phases.append(now)
    if sum(now) != 1:
        raise Stuck(len(phases), now)
    return phases


def loads_ahead(load):
    """The loads of which each phase of a load that comes out even is made."""
    return ([load] + phases_of(load))[:-1]


def is_even(load):
    """Whether the load comes out even, at one run."""
    try:
        phases_of(load)
    except Stuck:
        return False
    return True
