"""Which wagons are cut off from their calls, and which are sent to calls that wait."""

from wagoncalls.wagons import FREE, chosen, far, freed, named, waiting, with_task


def cut_off(town, chart, wagons, calls):
    """A tuple (cut, wagons): tuples (wagon, call) of those cut off, and the wagons behind it."""
    cut = []
    behind = []
    for wagon in wagons:
        if _is_cut_off(town, chart, wagon, calls):
            cut.append((wagon[0], wagon[5][1]))
            behind.append(freed(wagon))
        else:
            behind.append(wagon)
    return cut, behind


def sendings(town, chart, now, wagons, calls):
    """A tuple (sendings, wagons): tuples (call, wagon, left) in their order, and the wagons behind them."""
    sent = []
    behind = list(wagons)
    looked_at = []
    name = _next_call(behind, calls, looked_at)
    while name is not None:
        looked_at.append(name)
        wagon = chosen(town, chart, now, behind, calls, name)
        if wagon is not None:
            sent.append((name, wagon, _call_of(behind, wagon)))
            behind = [with_task(row, ("to", name)) if row[0] == wagon else row for row in behind]
        name = _next_call(behind, calls, looked_at)
    return sent, behind


def _is_cut_off(town, chart, wagon, calls):
    if wagon[5][0] != "to":
        return False
    place = named(calls, wagon[5][1])[1]
    # Any moment does: only whether there is a way is asked.
    return far(town, chart, 0, wagon, place) is None


def _next_call(wagons, calls, looked_at):
    """The first call that waits and wasn't looked at yet, None where all were."""
    for name in waiting(wagons, calls):
        if name not in looked_at:
            return name
    return None


def _call_of(wagons, name):
    """The call of the wagon of a name, None of a free one."""
    task = named(wagons, name)[5]
    return None if task == FREE else task[1]
