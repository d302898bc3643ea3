"""Of what kind a thing is that was handed in, and the refusal of numbers."""

from looplearn.errors import NoCount


def is_letters(thing):
    """Tell of anything whether it is a text of letters from a to z, perhaps none."""
    return isinstance(thing, str) and all(["a" <= sign <= "z" for sign in thing])


def is_whole(thing):
    """Tell of anything whether it is a whole number."""
    # True and False are ints to Python, but they are no numbers here.
    return isinstance(thing, int) and not isinstance(thing, bool)


def is_within(thing, least, most):
    """Tell of anything whether it is a whole number within these bounds."""
    return is_whole(thing) and least <= thing <= most


def refuse_no_count(thing, least, most):
    """Refuse what is no whole number within these bounds."""
    if not is_within(thing, least, most):
        raise NoCount(f"a whole number from {least} to {most} is due")
