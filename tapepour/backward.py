"""Tapes read back to front: directed runs poured together, and the ways by which a load never crosses."""

from tapepour.errors import Cross
from tapepour.loads import loads_ahead, phase_of, phases_of
from tapepour.plans import check_pour, load_of
from tapepour.runs import pour_runs

UP = "up"
DOWN = "down"


def other_way(way):
    """The way of a run that is written while one of this way is read back to front."""
    return DOWN if way == UP else UP


def ways_among(directed):
    """The unlike ways of these directed runs, but for dummies, which are of either way."""
    return sorted({way for way, run in directed if run})


def poured_back(directed):
    """The directed run that these, of ways that do not cross, are poured into."""
    together = pour_runs([run for way, run in directed])
    if UP in ways_among(directed):
        return DOWN, together[::-1]
    return UP, together


def done_back(tapes, plan):
    """The directed tapes behind a plan that reads back to front."""
    now = [[(way, list(run)) for way, run in tape] for tape in tapes]
    for at, pour in enumerate(plan):
        check_pour(load_of(now), pour, at)
        froms, to, times = pour
        for turn in range(times):
            taken = [now[tape].pop() for tape in froms]
            if len(ways_among(taken)) > 1:
                raise Cross(at)
            now[to].append(poured_back(taken))
    return now


def ways_ahead(bare, ways):
    """The ways ahead of a phase that pours into this tape, from the ways behind it."""
    # The run that was put first was made of the last runs, so the ways come back turned round.
    taken = [other_way(way) for way in reversed(ways[bare])]
    return [[] if tape == bare else left + taken for tape, left in enumerate(ways)]


def ways_of(load):
    """The ways of the runs of an even load by which its phases never cross and end with an up run."""
    behind = phases_of(load)
    ways = [[UP] * number for number in ([load] + behind)[-1]]
    for ahead in reversed(loads_ahead(load)):
        ways = ways_ahead(phase_of(ahead)[0], ways)
    return ways
