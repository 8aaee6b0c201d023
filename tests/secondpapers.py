"""A second reading of [32] to [34], and sheets by another hand."""

import random

from tests.secondtrees import due_moves_tree, other_moves_tree, uncovered


def due_is_plan(rows, thing):
    """[15]: a list of tuples (wagon, stand), sorted, each wagon once, the stand one of its can and not its post."""
    if type(thing) is not list or not all(type(move) is tuple and len(move) == 2 for move in thing):
        return False
    if not all(type(part) is str for move in thing for part in move):
        return False
    if thing != sorted(thing) or len({wagon for wagon, _ in thing}) != len(thing):
        return False
    return all(any(wagon == name and stand in can and stand != post for name, post, can in rows) for wagon, stand in thing)


def due_moves(town, chart, rows, plan, tree):
    """[33]: whether the third and the fourth of a sheet are let by."""
    if plan is not None:
        if not due_is_plan(rows, plan):
            return False
        moved = dict(plan)
        if uncovered(town, chart, [moved.get(wagon, post) for wagon, post, _ in rows]):
            return False
    return due_moves_tree(town, chart, rows, plan, tree)


def due_refusal(town, works, thing):
    """[33], of works as due_works tells them: the word and the number of the refusal; None where there is none."""
    if type(thing) is not list:
        return "shape", 0
    for at, (_, state, (chart, _, rows)) in enumerate(works):
        if len(thing) == at or type(thing[at]) is not tuple or len(thing[at]) != 4:
            return "shape", at
        if type(thing[at][0]) is not int or thing[at][0] != state[0]:
            return "moment", at
        if repr(thing[at][1]) != repr(chart):
            return "chart", at
        if not due_moves(town, chart, rows, thing[at][2], thing[at][3]):
            return "moves", at
    return None if len(thing) == len(works) else ("shape", len(works))


def other_sheets(seed, town, works):
    """Sheets by another hand: other trees, their branches in other orders."""
    chance = random.Random(seed)
    sheets = []
    for _, state, (chart, plan, rows) in works:
        most = len(rows) if plan is None else len(plan)
        sheets.append((state[0], chart, plan and list(plan), other_moves_tree(chance, town, chart, rows, most)))
    return sheets


def due_stays(events):
    """[34]: of each sending, all that comes behind it."""
    told = []
    for at, (begin, word, *rest) in enumerate(events):
        if word != "sent":
            continue
        call, wagon, there, end = rest[0], rest[1], None, None
        for moment, *event in events[at + 1:]:
            if event == ["there", wagon, call] and there is None:
                there = moment
            if (event[0] == "sent" and event[2:] == [wagon, call] or event == ["cut", wagon, call]
                    or event == ["told", ("off", wagon)] or event == ["told", ("done", call)]):
                end = moment
                break
        told.append((wagon, call, begin, there, end))
    return told


def due_waits(events):
    """[34]: of each call, all that comes behind it until it is done."""
    told = []
    for at, (since, word, *rest) in enumerate(events):
        if word != "told" or rest[0][0] != "call":
            continue
        call, found = rest[0][1], {"sent": [], "there": [], "over": []}
        for moment, *event in events[at + 1:]:
            if event == ["told", ("done", call)]:
                found["over"].append(moment)
                break
            if event[0] == "sent" and event[1] == call:
                found["sent"].append(moment)
            if event[0] == "there" and event[2] == call:
                found["there"].append(moment)
        told.append((call, since, *[(found[key] + [None])[0] for key in ("sent", "there", "over")]))
    return told
