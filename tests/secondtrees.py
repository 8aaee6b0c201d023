"""A second reading of [12] to [16], word by word and by trying all, for the tests to hold the program against."""

import itertools
import random

STANDS = ("s0", "s1", "s2", "s3", "s4")


def near(town, chart, post):
    """The places that a place reaches."""
    at = town[0].index(post)
    return [place for goal, place in enumerate(town[0]) if chart[goal][at] is not None and chart[goal][at] <= town[3]]


def uncovered(town, chart, posts):
    """The bare places of posts that aren't lost; where there are none, the posts cover."""
    held = [place for post in posts for place in near(town, chart, post)]
    return [place for place in town[0]
            if place not in held and any(place in near(town, chart, stand) for stand in town[2])]


def all_fewest(town, chart):
    """The fewest posts, by trying all sets of stands, the fewer ones and the first ones first."""
    for many in range(len(town[2]) + 1):
        for posts in itertools.combinations(town[2], many):
            if not uncovered(town, chart, posts):
                return posts
    return None


def behind(rows, plan):
    """The posts behind a plan."""
    return [([stand for name, stand in plan if name == wagon] or [post])[0] for wagon, post, _ in rows]


def all_least(town, chart, rows):
    """The least plan, by trying all plans."""
    found = []
    for stays in itertools.product(*[[None, *[stand for stand in can if stand != post]] for _, post, can in rows]):
        plan = [(row[0], stand) for row, stand in zip(rows, stays) if stand is not None]
        if not uncovered(town, chart, behind(rows, plan)):
            found.append((len(plan), plan))
    return min(found)[1] if found else None


def due_posts_tree(town, chart, posts, thing, chosen=()):
    """[14], word by word."""
    if type(thing) is not tuple or not thing or type(thing[0]) is not str:
        return False
    if thing[0] == "full" and len(thing) == 1:
        numbers = sorted(town[2].index(stand) for stand in chosen)
        due = [town[2].index(stand) for stand in posts]
        return len(chosen) == len(posts) and not uncovered(town, chart, chosen) and not numbers < due
    if thing[0] not in ("bare", "by") or len(thing) != (2 if thing[0] == "bare" else 3):
        return False
    if type(thing[1]) is not str or thing[1] not in uncovered(town, chart, chosen):
        return False
    if thing[0] == "bare":
        return len(chosen) == len(posts)
    if len(chosen) >= len(posts) or type(thing[2]) is not tuple:
        return False
    if not all(type(branch) is tuple and len(branch) == 2 and type(branch[0]) is str for branch in thing[2]):
        return False
    due = [stand for stand in town[2] if thing[1] in near(town, chart, stand)]
    if sorted(branch[0] for branch in thing[2]) != sorted(due):
        return False
    return all(due_posts_tree(town, chart, posts, tree, (*chosen, stand)) for stand, tree in thing[2])


def due_options(town, chart, rows, chosen, place):
    """[16]: the options for a place, behind some moves."""
    return [(wagon, stand) for wagon, post, can in rows for stand in can
            if wagon not in [name for name, _ in chosen] and stand != post and place in near(town, chart, stand)]


def due_moves_tree(town, chart, rows, plan, thing, chosen=()):
    """[16], word by word."""
    most = len(rows) if plan is None else len(plan)
    if type(thing) is not tuple or not thing or type(thing[0]) is not str:
        return False
    lacking = uncovered(town, chart, behind(rows, chosen))
    if thing[0] == "full" and len(thing) == 1:
        return plan is not None and len(chosen) == most and not lacking and not sorted(chosen) < plan
    if thing[0] not in ("bare", "by") or len(thing) != (2 if thing[0] == "bare" else 3):
        return False
    if type(thing[1]) is not str or thing[1] not in lacking:
        return False
    due = due_options(town, chart, rows, chosen, thing[1])
    if thing[0] == "bare":
        return len(chosen) == most or due == []
    if len(chosen) >= most or type(thing[2]) is not tuple:
        return False
    if not all(type(branch) is tuple and len(branch) == 3 for branch in thing[2]):
        return False
    if not all(type(part) is str for branch in thing[2] for part in branch[:2]):
        return False
    if sorted(branch[:2] for branch in thing[2]) != sorted(due):
        return False
    return all(due_moves_tree(town, chart, rows, plan, tree, (*chosen, (wagon, stand)))
               for wagon, stand, tree in thing[2])


def other_posts_tree(chance, town, chart, many, chosen=()):
    """A tree of posts by another hand: any place that lacks, the branches in any order."""
    lacking = uncovered(town, chart, chosen)
    if not lacking:
        return ("full",)
    place = chance.choice(lacking)
    if len(chosen) == many:
        return ("bare", place)
    stands = [stand for stand in town[2] if place in near(town, chart, stand)]
    chance.shuffle(stands)
    return ("by", place, tuple([(stand, other_posts_tree(chance, town, chart, many, (*chosen, stand)))
                                for stand in stands]))


def other_moves_tree(chance, town, chart, rows, most, chosen=()):
    """A tree of moves by another hand."""
    lacking = uncovered(town, chart, behind(rows, chosen))
    if not lacking:
        return ("full",)
    place = chance.choice(lacking)
    options = due_options(town, chart, rows, chosen, place)
    if len(chosen) == most or not options and chance.random() < 0.5:
        return ("bare", place)
    chance.shuffle(options)
    return ("by", place, tuple([(*option, other_moves_tree(chance, town, chart, rows, most, (*chosen, option)))
                                for option in options]))


def nodes(tree):
    """All trees within a tree, itself first."""
    yield tree
    if tree[0] == "by":
        for branch in tree[2]:
            yield from nodes(branch[-1])


def with_node(tree, at, other):
    """The tree with its node of this number (as nodes tells them) put otherwise, and how many nodes were gone by."""
    if at == 0:
        return other
    at -= 1
    branches = []
    for branch in tree[2]:
        many = len(list(nodes(branch[-1])))
        branches.append((*branch[:-1], with_node(branch[-1], at, other)) if 0 <= at < many else branch)
        at -= many
    return (tree[0], tree[1], tuple(branches))


def spoilt_nodes(chance, town, node):
    """A node put otherwise by one step, in many ways, some of which may be right all the same."""
    place = chance.choice(town[0])
    told = [("full",), ("bare", place), ("by", place, ()), list(node), node + (None,), node[:-1], ("Full",), ("full", ()),
            ("bare", [place]), ("bare", place + " "), (node,), ("",), (), None, True, 0, "full", ("by", place), {}, "by"]
    told.append((node[0] + "s",) + node[1:])
    if node[0] == "by":
        branches = list(node[2])
        told += [("by", node[1], branches), ("by", place, node[2]), ("bare", node[1]), ("by", node[1], ())]
        told += [("by", node[1], tuple(list(branch) for branch in branches)), ("by", node[1], node[2] + (None,))]
        told += [("by", node[1], dict(enumerate(branches))), ("bare", node[1], node[2]), ("by", node[1], None)]
        if branches:
            at = chance.randrange(len(branches))
            branch = branches[at]
            changed = [
                [], [branch, branch], [branch[:-1]], [branch + (None,)], [(chance.choice(town[0]),) + branch[1:]],
                [branch[:-2] + (chance.choice(town[0]), branch[-1])], [branch[:-1] + (None,)], [branch[::-1]],
                [(branch[0] + "a",) + branch[1:]], [(branch[0][:-1],) + branch[1:]], [((branch[0],),) + branch[1:]],
                [branch, (chance.choice(town[0]),) + branch[1:]], [None], [()], [(branch[-1],)], [True],
            ]
            told += [("by", node[1], tuple(branches[:at] + other + branches[at + 1:])) for other in changed]
            told.append(("by", node[1], tuple(reversed(branches))))
            told.append(branch[-1])
    return told


def spoilt(chance, town, tree, many):
    """So many trees, each the tree with one node put otherwise."""
    found = []
    whole = list(nodes(tree))
    for _ in range(many):
        at = chance.randrange(len(whole))
        found.append(with_node(tree, at, chance.choice(spoilt_nodes(chance, town, whole[at]))))
    return found


def held_by(*holders):
    """A town of reach 1 and a chart in which each place (the stands s0 .. besides) is reached by just these stands."""
    stands = STANDS[:1 + max(number for numbers in holders for number in numbers)]
    places = stands + tuple(f"q{at}" for at in range(len(holders)))
    roads = []
    for at, numbers in enumerate(holders):
        roads += [(stands[number], f"q{at}", 1, None) for number in numbers]
    return places, tuple(roads), stands, 1


def random_rows(seed, town):
    """Free rows of a town: cans empty, whole and in between, posts anywhere."""
    chance = random.Random(seed)
    names = sorted(chance.sample(["a", "a1", "b", "w", "w1", "w10", "w2", "zz"], chance.choice([0, 1, 2, 3, 4, 5, 5, 5])))
    share = chance.choice([0, 2, 4, 5, 5])
    posts = chance.choice([town[0], town[0], town[2], town[0][:1], town[0][-1:]])
    return [(name, chance.choice(posts),
             tuple(stand for stand in town[2] if chance.randint(0, 4) < share)) for name in names]
