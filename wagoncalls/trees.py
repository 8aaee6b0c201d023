"""Checkers of plans, and of trees that show posts or plans: they seek nothing."""

from wagoncalls.choices import MoveChoices, StandChoices


def shows_posts(town, chart, posts, thing):
    """Whether a thing is a tree that shows posts."""
    choices = StandChoices(town, chart)
    least = choices.ordered([(post,) for post in posts])
    return _shows(choices, len(posts), least, [], thing)


def shows_moves(town, chart, rows, plan, thing):
    """Whether a thing is a tree that shows a plan of free rows, or None."""
    most = len(rows) if plan is None else len(plan)
    return _shows(MoveChoices(town, chart, rows), most, plan, [], thing)


def is_plan(town, rows, thing):
    """Whether a thing is a plan of free rows."""
    if not isinstance(thing, list) or not all(_is_move(rows, move) for move in thing):
        return False
    wagons = [move[0] for move in thing]
    # Sorted, and no wagon twice: the wagons rise.
    return all([wagon < later for wagon, later in zip(wagons, wagons[1:])])


def covers_behind(town, chart, rows, plan):
    """Whether the posts behind a plan of free rows cover."""
    return not MoveChoices(town, chart, rows).lacking(plan)


def _is_move(rows, thing):
    if not isinstance(thing, tuple) or len(thing) != 2:
        return False
    return any(thing[0] == wagon and thing[1] in can and thing[1] != post for wagon, post, can in rows)


def _shows(choices, most, least, chosen, thing):
    """Whether a thing is a tree that shows the least of so many choices, or that none cover, from those chosen on."""
    if _is_node(thing, "bare", 2):
        return _is_bare(choices, most, chosen, thing[1])
    if _is_node(thing, "by", 3):
        return _is_by(choices, most, least, chosen, thing[1], thing[2])
    return _is_node(thing, "full", 1) and _is_full(choices, most, least, chosen)


def _is_node(thing, word, many):
    return isinstance(thing, tuple) and len(thing) == many and thing[0] == word


def _is_bare(choices, most, chosen, place):
    if place not in choices.lacking(chosen):
        return False
    return len(chosen) == most or not choices.options(chosen, place)


def _is_by(choices, most, least, chosen, place, branches):
    if place not in choices.lacking(chosen) or len(chosen) >= most:
        return False
    if not _are_branches(branches, choices.options(chosen, place)):
        return False
    return all(_shows(choices, most, least, [*chosen, branch[:-1]], branch[-1]) for branch in branches)


def _are_branches(thing, options):
    """Whether a thing is a tuple of branches, one for each option, each the option's parts and a tree."""
    if not isinstance(thing, tuple) or len(thing) != len(options):
        return False
    if not all(isinstance(branch, tuple) for branch in thing):
        return False
    heads = [branch[:-1] for branch in thing]
    return all(option in heads for option in options)


def _is_full(choices, most, least, chosen):
    if least is None or len(chosen) != most or choices.lacking(chosen):
        return False
    return choices.ordered(chosen) >= least
