"""Trees: to which of all rounds a coder comes."""

from looplearn.coders import next_coder
from looplearn.errors import NoTree
from looplearn.kinds import is_within, refuse_no_count
from looplearn.loops import MOST_PLACES
from looplearn.rounds import enter_round, last_goings

MOST_PLACES_OF_ALL = 6


def tree_of(coder):
    """Tell the tree of the round to which a coder comes."""
    _, coder = enter_round(coder)
    while coder[0] != 0 or coder[1][0] % len(coder[1]) != 0:
        coder = next_coder(coder)
    return tuple(last_goings(coder)[1:])


def all_come_first(tree):
    """Tell whether from all places of what may be a tree one comes to place 0."""
    goings = (0, *tree)
    places = list(goings)
    # Who comes there goes by no place twice, so as many goings as places are enough.
    for _ in tree:
        places = [goings[place] for place in places]
    return all([place == 0 for place in places])


def is_tree(p, thing):
    """Tell of anything whether it is a tree of p places."""
    refuse_no_count(p, 1, MOST_PLACES)
    if not isinstance(thing, tuple) or len(thing) != p - 1:
        return False
    return all([is_within(place, 0, p - 1) for place in thing]) and all_come_first(thing)


def coder_of(p, tree):
    """Tell the coder at place 0, of the least lengths, whose last goings are this tree."""
    if not is_tree(p, tree):
        raise NoTree(f"a tree of {p} places leads from each but the first, and in the end there")
    lengths = [(to - place) % p for place, to in enumerate(tree, start=1)]
    return 0, (0, *lengths)


def all_trees(p):
    """Tell all trees of p places, rising."""
    refuse_no_count(p, 1, MOST_PLACES_OF_ALL)
    rows = [()]
    for _ in range(p - 1):
        rows = [(*row, place) for row in rows for place in range(p)]
    return [row for row in rows if all_come_first(row)]
