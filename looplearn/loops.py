"""Loops: texts that are said over and over."""

from looplearn.errors import NoLoop
from looplearn.kinds import is_letters

MOST_PLACES = 12


def is_loop(thing):
    """Tell of anything whether it is a loop."""
    return is_letters(thing) and 1 <= len(thing) <= MOST_PLACES


def refuse_no_loop(loop):
    """Refuse what is no loop."""
    if not is_loop(loop):
        raise NoLoop(f"a loop has one to {MOST_PLACES} letters from a to z")


def is_plain(loop):
    """Tell whether the letters of a loop are unlike."""
    refuse_no_loop(loop)
    return len(set(loop)) == len(loop)


def refuse_not_plain(loop):
    """Refuse what is no loop, and a loop that isn't plain."""
    if not is_plain(loop):
        raise NoLoop("the letters of a plain loop are unlike")


def root(loop):
    """Tell the shortest text that, said over and over, is the same as the loop."""
    refuse_no_loop(loop)
    # A whole turn gives the loop again, so this ends at its length at the latest.
    size = 1
    while turned(loop, size) != loop:
        size += 1
    return loop[:size]


def turned(loop, by):
    """Tell the loop that begins so many letters later."""
    refuse_no_loop(loop)
    at = by % len(loop)
    return loop[at:] + loop[:at]


def alike_for(one, other):
    """Tell for how many letters two loops read alike, or None if for ever."""
    # Endless loops are one just where their roots are; else they part somewhere.
    if root(one) == root(other):
        return None
    many = 0
    while one[many % len(one)] == other[many % len(other)]:
        many += 1
    return many
