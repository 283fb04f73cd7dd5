"""Runs made of a row of items with a store of a few places."""


def least_fitting(store, run):
    """The least item in the store that can go on with the run, or None."""
    fitting = [item for item in store if not run or item >= run[-1]]
    return min(fitting, default=None)


def made_runs(items, places):
    """The runs that a store of so many places makes of a row of items."""
    store = items[:places]
    taken = len(store)
    runs = []
    run = []
    while store:
        given = least_fitting(store, run)
        if given is None:
            runs.append(run)
            run = []
            continue
        run.append(given)
        store.remove(given)
        if taken < len(items):
            store.append(items[taken])
            taken += 1
    # The last run ends because the store is empty, not because nothing fits.
    if run:
        runs.append(run)
    return runs
