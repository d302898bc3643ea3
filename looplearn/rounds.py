"""Rounds: where each coder comes to in the end, and the rings of one that hasn't yet."""

from looplearn.coders import next_coder, refuse_no_coder, words_of
from looplearn.kinds import is_within


def last_goings(coder):
    """Tell for each place to which place its last going leads."""
    _, lengths = coder
    return [(place + length) % len(lengths) for place, length in enumerate(lengths)]


def ring_from(coder, least):
    """Tell the ring of a coder that has this place as its least one, or None."""
    home, _ = coder
    if least == home:
        return None
    goings = last_goings(coder)
    places = [least]
    place = goings[least]
    # Ahead of its end a ring has neither the coder's place, nor a lesser one than its
    # least, nor one twice.
    while place > least and place != home and place not in places:
        places.append(place)
        place = goings[place]
    return places if place == least else None


def ring(coder):
    """Tell the ring of a coder whose least place is least, or None."""
    refuse_no_coder(coder)
    for least in range(len(coder[1])):
        found = ring_from(coder, least)
        if found is not None:
            return found
    return None


def is_ring(coder, thing):
    """Tell of anything whether it is a ring of a coder."""
    refuse_no_coder(coder)
    if not isinstance(thing, list) or not thing:
        return False
    most = len(coder[1]) - 1
    if not all([is_within(place, 0, most) for place in thing]):
        return False
    return thing == ring_from(coder, thing[0])


def in_round(coder):
    """Tell whether a coder is in its round."""
    # Where no ring keeps some places apart, the last goings lead from all places to
    # the coder's own: just such a coder comes back, with all of its last goings.
    return ring(coder) is None


def enter_round(coder):
    """Tell how many steps a coder takes at least till it is in its round, and it then."""
    many = 0
    while not in_round(coder):
        coder = next_coder(coder)
        many += 1
    return many, coder


def ahead(coder):
    """Tell how many steps a coder takes at least till it is in its round."""
    many, _ = enter_round(coder)
    return many


def round_of(coder):
    """Tell the words of a coder's round, each as its place and its length modulo p."""
    _, begun = enter_round(coder)
    places = len(begun[1])
    return [(place, length % places) for place, length in words_of(begun, places * places)]
