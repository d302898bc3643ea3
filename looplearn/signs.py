"""Signs: what tells the round to which a coder comes, without going there."""

from looplearn.coders import next_coder, refuse_no_coder
from looplearn.errors import NoSign, NotLike, NotRound
from looplearn.kinds import is_within, refuse_no_count
from looplearn.loops import MOST_PLACES
from looplearn.rounds import in_round
from looplearn.trees import MOST_PLACES_OF_ALL, all_trees, coder_of


def ends_ahead(lengths, at):
    """Tell how many words of these lengths end just ahead of a place."""
    places = len(lengths)
    # From a place to this one it is so many letters on, or a loop more, and so on; from
    # the place itself it is a whole loop.
    ways = [(at - place - 1) % places + 1 for place in range(places)]
    return sum([(length - way) // places + 1 for length, way in zip(lengths, ways)])


def sign_of(coder):
    """Tell the sign of a coder."""
    refuse_no_coder(coder)
    home, lengths = coder
    places = len(lengths)
    numbers = [length - ends_ahead(lengths, place) for place, length in enumerate(lengths)]
    numbers[home] += 1
    return tuple([(number - numbers[0]) % places for number in numbers])


def is_sign(p, thing):
    """Tell of anything whether it is a sign of p places."""
    refuse_no_count(p, 1, MOST_PLACES)
    if not isinstance(thing, tuple) or len(thing) != p:
        return False
    if not all([is_within(number, 0, p - 1) for number in thing]):
        return False
    return thing[0] == 0 and (sum(thing) - 1) % p == 0


def refuse_no_sign(p, sign):
    """Refuse what is no sign of p places."""
    if not is_sign(p, sign):
        raise NoSign(f"a sign of {p} places has numbers below {p}, 0 first, 1 over in sum")


def refuse_unlike(coder, other):
    """Refuse what is no coder, and two coders of unlike many places."""
    refuse_no_coder(coder)
    refuse_no_coder(other)
    if len(coder[1]) != len(other[1]):
        raise NotLike("the two coders have unlike many places")


def one_round(coder, other):
    """Tell whether two coders come to one round."""
    refuse_unlike(coder, other)
    return sign_of(coder) == sign_of(other)


def tree_by(p, sign):
    """Tell the tree of the round of a sign."""
    refuse_no_count(p, 1, MOST_PLACES_OF_ALL)
    refuse_no_sign(p, sign)
    # Each round has one sign and one tree, so just one of all trees has this sign.
    return [tree for tree in all_trees(p) if sign_of(coder_of(p, tree)) == sign][0]


def modulo_places(coder):
    """Tell where a coder is, with its lengths modulo the number of places."""
    place, lengths = coder
    return place, [length % len(lengths) for length in lengths]


def steps_between(coder, other):
    """Tell the fewest steps from one coder in its round to another one, or None."""
    refuse_unlike(coder, other)
    if not in_round(coder) or not in_round(other):
        raise NotRound("one of the coders is not in its round")
    due = modulo_places(other)
    for many in range(len(coder[1]) * len(coder[1])):
        if modulo_places(coder) == due:
            return many
        coder = next_coder(coder)
    return None
