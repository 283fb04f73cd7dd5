"""Items and runs: telling a run, pouring runs together, cutting a list into runs."""


def is_run(items):
    """Whether the items never fall."""
    return all([ahead <= behind for ahead, behind in zip(items, items[1:])])


def pour_runs(runs):
    """The run of all items of these runs."""
    return sorted([item for run in runs for item in run])


def stretches(items):
    """The rising stretches of a list of items, each as long as it can be."""
    runs = []
    for item in items:
        if runs and runs[-1][-1] <= item:
            runs[-1].append(item)
        else:
            runs.append([item])
    return runs
