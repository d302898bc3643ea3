"""Coders: where on a plain loop a learner is, and how long what it knows is."""

from looplearn.errors import NoCoder
from looplearn.kinds import is_whole, is_within, refuse_no_count
from looplearn.loops import MOST_PLACES, refuse_not_plain
from looplearn.words import longest_end, numbered, refuse_unknown

MOST_WORDS = 2000
MOST_STEPS = 10 ** 18


def is_coder(thing):
    """Tell of anything whether it is a coder."""
    if not isinstance(thing, tuple) or len(thing) != 2:
        return False
    place, lengths = thing
    if not isinstance(lengths, tuple) or not 1 <= len(lengths) <= MOST_PLACES:
        return False
    if not is_within(place, 0, len(lengths) - 1):
        return False
    return all([is_whole(length) and length >= 0 for length in lengths])


def refuse_no_coder(coder):
    """Refuse what is no coder."""
    if not is_coder(coder):
        raise NoCoder(f"a coder is a place and one to {MOST_PLACES} lengths from 0 on")


def one_longer(lengths, place):
    """Tell the lengths when one word more is known at a place."""
    return (*lengths[:place], lengths[place] + 1, *lengths[place + 1:])


def next_coder(coder):
    """Tell the coder behind a step of what surely is a coder."""
    place, lengths = coder
    longer = one_longer(lengths, place)
    return (place + longer[place]) % len(lengths), longer


def step(coder):
    """Tell the coder behind a step."""
    refuse_no_coder(coder)
    return next_coder(coder)


def rounds_later(coder, rounds):
    """Tell the coder so many whole rounds later, of what surely is one in its round."""
    # A whole round keeps the place and makes each length more by the number of places.
    place, lengths = coder
    return place, tuple([length + rounds * len(lengths) for length in lengths])


def words_till_round(places):
    """Tell behind how many words each coder of so many places is in its round."""
    # As many words in a row of one place as there are places lead to all of them. So
    # while one isn't come to, each other one begins fewer, (places - 1) ** 2 together:
    # behind one word more all have been come to, and the coder is in its round.
    return (places - 1) ** 2 + 1


def behind(coder, many):
    """Tell the coder behind so many steps."""
    refuse_no_coder(coder)
    refuse_no_count(many, 0, MOST_STEPS)
    places = len(coder[1])
    rounds = max(0, many - words_till_round(places)) // (places * places)
    for _ in range(many - rounds * places * places):
        coder = next_coder(coder)
    return rounds_later(coder, rounds)


def words_of(coder, many):
    """Tell the words that so many steps take, each as its place and its length."""
    refuse_no_coder(coder)
    refuse_no_count(many, 0, MOST_WORDS)
    words = []
    for _ in range(many):
        place, lengths = coder
        words.append((place, lengths[place] + 1))
        coder = next_coder(coder)
    return words


def known_lengths(loop, known):
    """Tell place by place how long the longest word is that is known of an endless loop."""
    refuse_unknown(known)
    numbers = numbered(known)
    # No known word has more letters than there are words, for its beginnings are
    # known too; so this text never ends ahead of a word that the endless loop has.
    text = loop * (len(known) // len(loop) + 2)
    return tuple([longest_end(numbers, text, at) - at for at in range(len(loop))])


def coder_on(loop, known):
    """Tell the coder at the first place of a plain loop that knows these words."""
    refuse_not_plain(loop)
    return 0, known_lengths(loop, known)
