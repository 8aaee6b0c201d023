"""The search for the fewest choices behind which posts cover, with a tree that shows them."""


def fewest_choices(choices, most):
    """A tuple (choices, tree): the fewest that cover, of several the first; None where so many as most don't do."""
    # By few first: where fewer do, the tree of more would hold posts that cover too early.
    for many in range(most + 1):
        found, tree = _sought(choices, many, [])
        if found is not None:
            break
    return found, tree


def _sought(choices, many, chosen):
    """The first of those that cover and have the chosen in them, or None; and the tree from there on."""
    lacking = choices.lacking(chosen)
    if not lacking:
        return choices.ordered(chosen), ("full",)
    if len(chosen) == many:
        return None, ("bare", lacking[0])
    place, options = _tightest(choices, chosen, lacking)
    if not options:
        return None, ("bare", place)
    first = None
    branches = []
    for option in options:
        found, tree = _sought(choices, many, [*chosen, option])
        branches.append((*option, tree))
        if found is not None and (first is None or found < first):
            first = found
    return first, ("by", place, tuple(branches))


def _tightest(choices, chosen, places):
    """The place that has the fewest options, the first of several, and its options: so the tree stays small."""
    tightest = None
    for place in places:
        options = choices.options(chosen, place)
        if tightest is None or len(options) < len(tightest[1]):
            tightest = (place, options)
    return tightest
