"""Even loads: how they are come to backward from one run, and numbers of runs made up to them."""

from tapepour.loads import loads_ahead, phase_of


def poured_into(load):
    """The tapes into which the phases of an even load pour, from the last phase to the first."""
    row = [phase_of(ahead)[0] for ahead in loads_ahead(load)]
    return row[::-1]


def one_run(tapes, begin):
    """The load of so many tapes with one run, on the tape with the number begin."""
    return tuple([1 if tape == begin else 0 for tape in range(tapes)])


def come_by(load, tape):
    """The load that comes backward of this one by this tape."""
    added = load[tape]
    return tuple([0 if at == tape else number + added for at, number in enumerate(load)])


def come_back(tapes, begin, row):
    """The load that comes backward of one run by a row of tapes."""
    load = one_run(tapes, begin)
    for tape in row:
        load = come_by(load, tape)
    return load


def falling(load):
    """The load with its numbers put in falling order."""
    return tuple(sorted(load, reverse=True))


def come_by_any(load):
    """The loads that come backward of this one, numbers falling."""
    # Tapes of one number lead to the same load up to order, so one of them is enough.
    numbers = sorted({number for number in load if number > 0})
    return [falling(come_by(load, load.index(number))) for number in numbers]


def a_phase_more(loads):
    """The loads, numbers falling, that come backward of any of these, sorted, each once."""
    return sorted({more for load in loads for more in come_by_any(load)})


def even_loads(tapes, phases):
    """The even loads of so many tapes and phases, up to order."""
    loads = [one_run(tapes, 0)]
    for made in range(phases):
        loads = a_phase_more(loads)
    return loads


def fullest_load(tapes, phases):
    """The load that comes of one run by adding the number of the fullest tape at each step."""
    load = one_run(tapes, 0)
    for made in range(phases):
        load = come_by(load, load.index(max(load)))
    return load


def made_up(tapes, runs):
    """The load of the fewest phases for so many runs and the least dummies, these, and the phases."""
    # No load without runs is even, so there is one run at least.
    total = max(runs, 1)
    total += (1 - total) % (tapes - 2)
    loads = [one_run(tapes, 0)]
    phases = 0
    while not any([sum(load) == total for load in loads]):
        # Backward the runs only grow, so nothing is lost with a load that has too many.
        loads = [load for load in a_phase_more(loads) if sum(load) <= total]
        phases += 1
    return max([load for load in loads if sum(load) == total]), total - runs, phases
