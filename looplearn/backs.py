"""Backs: what led to a coder."""

from looplearn.coders import refuse_no_coder
from looplearn.errors import NotRound
from looplearn.rounds import in_round, last_goings


def taken_off(coder, place):
    """Tell the coder at this place ahead of whose step its word wasn't known yet."""
    _, lengths = coder
    return place, (*lengths[:place], lengths[place] - 1, *lengths[place + 1:])


def befores(coder):
    """Tell all coders that lead to a coder by one step, rising."""
    refuse_no_coder(coder)
    home, lengths = coder
    goings = last_goings(coder)
    led = [place for place, to in enumerate(goings) if to == home and lengths[place] > 0]
    return [taken_off(coder, place) for place in led]


def before(coder):
    """Tell the coder in its round that leads to a coder in its round, or None."""
    refuse_no_coder(coder)
    if not in_round(coder):
        raise NotRound("the coder is not in its round")
    # Counted modulo p just one coder of a round leads to the next, so at most one of
    # these is in its round; none is where that one's length would be below 0.
    for earlier in befores(coder):
        if in_round(earlier):
            return earlier
    return None
