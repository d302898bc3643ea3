"""Coders to be handed in, and what the document's words say of them, step by step."""

import itertools
import random

FAR = 10 ** 30

# What is no coder though it looks like one.
NOT_CODERS = [
    (), (0,), (0, ()), (0, (0,), 0), (0, (0,) * 13), (12, (0,) * 13), (1, (0,)), (-1, (0,)), (2, (0, 0)),
    (12, (0,) * 12), (-1, (0,) * 12), (-2, (0, 0)), (0, [0]), (0, [0, 0]), [0, (0,)], [0, [0]], (0, 0),
    (0, "0"), ("0", (0,)), (0, ("0",)), (0, (-1,)), (0, (0, -1)), (1, (-1, 0)), (0, (0, -10 ** 36)),
    (True, (0, 0)), (False, (0, 0)), (0, (True,)), (0, (False, 0)), (0, (0, True)), (None, (0,)),
    (0, None), (0, (None,)), (0, (0, None)), (0, ((0,),)), ((0,), (0,)), ((0,), 0), (0, {0: 0}), (0, {0}),
    {0: (0,)}, (0, range(3)), (0, b"aa"), (b"a", (0,)), ((0, 0), 0), (10 ** 36, (0,)), (-10 ** 36, (0,)),
    (0, ([],)), ([], (0,)), (0, (0, [0])), "at 0 knows 0", (0, 0, 0),
]

NOT_NUMBERS = [
    None, True, False, "", "1", b"1", (), (1,), [], [1], {}, {1: 1}, {1}, object(), int, ((1,),), [[1]],
]


def small_coders(p, most):
    """All coders of p places whose lengths are at most so much."""
    rows = itertools.product(range(most + 1), repeat=p)
    return [(place, row) for row in rows for place in range(p)]


def chance_coder(chance, p, most):
    return chance.randrange(p), tuple(chance.randint(0, most) for _ in range(p))


def late_coder(p):
    """The coder that comes to its round as late as may be: the last place comes last."""
    return max(p - 2, 0), tuple(p - 1 - place for place in range(p))


def one_step(coder):
    place, lengths = coder[0], list(coder[1])
    lengths[place] += 1
    return (place + lengths[place]) % len(lengths), tuple(lengths)


def many_steps(coder, many):
    for _ in range(many):
        coder = one_step(coder)
    return coder


def comes_back(coder):
    """Whether the coder is at its place again behind p * p steps, each length p more."""
    p = len(coder[1])
    return many_steps(coder, p * p) == (coder[0], tuple(length + p for length in coder[1]))


def steps_till_round(coder):
    many = 0
    while not comes_back(coder):
        coder = one_step(coder)
        many += 1
    return many


def some_coders(seed=6):
    """Coders of one to twelve places, with short lengths and long ones."""
    chance = random.Random(seed)
    for p in range(1, 13):
        yield late_coder(p)
        yield 0, (0,) * p
        yield p - 1, (FAR,) * p
        for most in (1, p, FAR):
            for _ in range(5):
                yield chance_coder(chance, p, most)


def words_in_turn(coder, many):
    """The words of so many steps, each as its place and its length."""
    words = []
    for _ in range(many):
        words.append((coder[0], coder[1][coder[0]] + 1))
        coder = one_step(coder)
    return words
