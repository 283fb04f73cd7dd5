"""The fewest pours that pour a load together."""

from tapepour.errors import TooMany
from tapepour.plans import MOST_FROMS, behind_pour

MOST_LOADS = 4000


def froms_of(load):
    """All froms, two or more tapes that are not bare, in the order of tuples."""
    chosen = [()]
    for tape, number in enumerate(load):
        if number > 0:
            chosen = chosen + [froms + (tape,) for froms in chosen]
    return sorted([froms for froms in chosen if 2 <= len(froms) <= MOST_FROMS])


def pours_of(load):
    """All pours of two froms or more that can be done on a load, in the order of tuples."""
    pours = []
    for froms in froms_of(load):
        most = min([load[tape] for tape in froms])
        for to in range(len(load)):
            if to not in froms:
                pours.extend([(froms, to, times) for times in range(1, most + 1)])
    return pours


def fewest_pours(load, bound):
    """The least of the plans of the fewest pours that pour a load together, or None."""
    if sum(load) == 1:
        return []
    plans = {load: []}
    waiting = [load]
    at = 0
    # Loads are come to in the order of their least plans, so the first with one run has the least.
    while at < len(waiting) and len(plans[waiting[at]]) < bound:
        ahead = waiting[at]
        at += 1
        for pour in pours_of(ahead):
            behind = behind_pour(ahead, pour)
            if behind in plans:
                continue
            if len(plans) == MOST_LOADS:
                raise TooMany(f"more than {MOST_LOADS} loads would be come to")
            plans[behind] = plans[ahead] + [pour]
            if sum(behind) == 1:
                return plans[behind]
            waiting.append(behind)
    return None
