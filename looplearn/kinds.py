"""Of what kind a thing is that was handed in."""


def is_letters(thing):
    """Tell of anything whether it is a text of letters from a to z, perhaps none."""
    return isinstance(thing, str) and all(["a" <= sign <= "z" for sign in thing])


def is_whole(thing):
    """Tell of anything whether it is a whole number."""
    # True and False are ints to Python, but they are no numbers here.
    return isinstance(thing, int) and not isinstance(thing, bool)
