"""Tapes told short, by the lengths of their runs, and what plans do to them and cost."""

from tapepour.plans import done_plan, load_behind


def lengths_of(tapes):
    """The lengths of the runs of each tape."""
    return [[len(run) for run in tape] for tape in tapes]


def length_together(lengths):
    """The length of the run that runs of these lengths are poured into."""
    return sum(lengths)


def lengths_behind(lengths, plan):
    """The lengths of the runs of each tape behind a plan."""
    behind, put = done_plan(lengths, plan, length_together)
    return behind


def cost_of(lengths, plan):
    """The sum of the lengths of all runs that a plan puts."""
    behind, put = done_plan(lengths, plan, length_together)
    return sum(put)


def weights_of(load, plan):
    """In how many pours each run of a load takes part, for a plan that pours it to one run."""
    weights = [[0] * number for number in load_behind(load, plan)]
    # From the last pour to the first: what a pour put are the last runs of its tape behind it,
    # and each was the first run of all its froms ahead of it, with this pour still to come.
    for froms, to, times in reversed(plan):
        put = [weight + 1 for weight in weights[to][-times:]]
        weights[to] = weights[to][:-times]
        for tape in froms:
            weights[tape] = put + weights[tape]
    return weights
