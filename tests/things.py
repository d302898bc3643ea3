"""Things of all kinds, to be handed in where something else is due."""


def nested(depth):
    """A list within a list, so many deep."""
    thing = []
    for _ in range(depth):
        thing = [thing]
    return thing


OTHERS = [
    None, True, False, 0, 1, -1, 10 ** 36, -10 ** 36, b"", b"a", "A", "a b", "a1", "a-b",
    "a\n", "\n", " ", " a", "~", "`", "{", "@", "[", "aB", [], ["a"], [["a"]], {}, {"a": 1},
    set(), {"a"}, frozenset(["a"]), range(3), object(), object, len, lambda: "a", ValueError("a"),
    nested(30), ([],), ({},), (None,), (True,), (0,), ("",), (b"a",), (("a",),), ("A",), ("a b",),
    ("a", 1), ("a", None), ("a", []), (1, "a"), (nested(30),),
]

# What a Python writes with signs beyond those from a to z is no letter here.
STRANGE_LETTERS = ["\u00e9", "\u00df", "\u0430", "\u212a", "\uff41", "a\u0301", "\U0001d41a", "\u0131"]
