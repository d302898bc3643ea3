import itertools
import random
import unittest

from goings import (
    FAR, NOT_CODERS, NOT_NUMBERS, chance_coder, comes_back, late_coder, many_steps, one_step, small_coders,
    some_coders, steps_till_round,
)
from looplearn.backs import befores
from looplearn.errors import NoCoder, NoCount, NoSign, NotLike, NotRound
from looplearn.signs import is_sign, one_round, sign_of, steps_between, tree_by
from looplearn.trees import all_trees, coder_of, tree_of
from things import OTHERS

NOT_PLACES = NOT_NUMBERS + [0, -1, 13, 10 ** 36, -10 ** 36]

NOT_SIGNS = [
    (0, 0, 0), (0, 1, 1), (0, 2, 1), (1, 0, 0), (2, 1, 1), (0, 0, 4), (0, 4, 0), (0, 3, 1), (0, -1, 2), (0, 1, -3),
    (3, 0, 1), (-3, 0, 1), (0, 1), (0, 1, 0, 0), (0,), (), [0, 0, 1], [0, 1, 0], (0, 0, True), (0, True, False),
    (False, 0, 1), (False, 2, 2), (0, False, 1), (None, 0, 1), (0, None, 1), ("0", "0", "1"), "001", (0, "0", 1),
    (0, (0,), 1), (0, [0], 1), ((0, 0, 1),), {0: 0, 1: 0, 2: 1}, {0, 1}, range(3), b"\x00\x00\x01", None, 0, 1,
    (0, 0, 10 ** 36), (0, 0, -10 ** 36), (0, {}, 1), (0, 10 ** 36, 0),
]


def sign_by_the_words(coder):
    """Word by word: where each begins, and just ahead of which place it ends."""
    home, lengths = coder
    p = len(lengths)
    numbers = [0] * p
    numbers[home] += 1
    for place in range(p):
        for length in range(1, lengths[place] + 1):
            numbers[place] += 1
            numbers[(place + length) % p] -= 1
    return tuple((number - numbers[0]) % p for number in numbers)


def is_sign_by_the_words(p, row):
    return row[0] == 0 and all(0 <= number < p for number in row) and sum(row) % p == 1 % p


def state(coder):
    return coder[0], tuple(length % len(coder[1]) for length in coder[1])


def states_of_round(coder):
    """All that a coder is in its round: its place, and its lengths modulo p."""
    coder = many_steps(coder, steps_till_round(coder))
    return {state(many_steps(coder, many)) for many in range(len(coder[1]) ** 2)}


def between_by_the_words(coder, other):
    p = len(coder[1])
    for many in range(p * p + 1):
        if state(coder) == state(other):
            return many
        coder = one_step(coder)
    return None


def into_round(coder):
    return many_steps(coder, steps_till_round(coder))


class TestSignOf(unittest.TestCase):
    def test_ordinary_coders(self):
        self.assertEqual(sign_of((0, (0, 0))), (0, 1))
        self.assertEqual(sign_of((0, (0, 0, 0))), (0, 2, 2))
        self.assertEqual(sign_of((1, (1, 0, 0))), (0, 2, 2))
        self.assertEqual(sign_of((0, (2, 0, 1))), (0, 0, 1))
        self.assertEqual(sign_of((1, (0, 0, 0))), (0, 1, 0))
        self.assertEqual(sign_of((2, (0, 0, 0))), (0, 0, 1))

    def test_one_place(self):
        for length in (0, 1, 2, FAR):
            self.assertEqual(sign_of((0, (length,))), (0,))

    def test_two_places_have_one_sign(self):
        for coder in small_coders(2, 5):
            self.assertEqual(sign_of(coder), (0, 1))

    def test_all_small_coders(self):
        for p in range(1, 5):
            for coder in small_coders(p, 4):
                self.assertEqual(sign_of(coder), sign_by_the_words(coder), coder)

    def test_other_coders(self):
        chance = random.Random(21)
        for p in range(5, 13):
            for most in (1, p, 3 * p, 90):
                for _ in range(10):
                    coder = chance_coder(chance, p, most)
                    self.assertEqual(sign_of(coder), sign_by_the_words(coder), coder)

    def test_lengths_of_thirty_figures_and_lengths_far_apart(self):
        # A length that is p more ends one word more ahead of each place, and p begin.
        for coder in some_coders(22):
            self.assertEqual(sign_of(coder), sign_by_the_words(state(coder)), coder)
        for place in range(3):
            coder = place, (0, FAR, 10 ** 29)
            self.assertEqual(sign_of(coder), sign_by_the_words(state(coder)))

    def test_a_step_never_changes_it(self):
        for coder in some_coders(23):
            due = sign_of(coder)
            for _ in range(40):
                coder = one_step(coder)
                self.assertEqual(sign_of(coder), due)

    def test_nor_does_a_step_back(self):
        for coder in some_coders(24):
            for earlier in befores(coder):
                self.assertEqual(sign_of(earlier), sign_of(coder))

    def test_it_is_a_sign(self):
        for coder in some_coders(25):
            self.assertIs(is_sign(len(coder[1]), sign_of(coder)), True)

    def test_the_kinds_of_what_is_told(self):
        for coder in ((0, (0,)), (0, (0, 1, 2)), (11, (FAR,) * 12)):
            told = sign_of(coder)
            self.assertEqual({type(told), *map(type, told)}, {tuple, int})


class TestIsSign(unittest.TestCase):
    def test_ordinary_signs(self):
        self.assertIs(is_sign(1, (0,)), True)
        self.assertIs(is_sign(2, (0, 1)), True)
        for sign in ((0, 0, 1), (0, 1, 0), (0, 2, 2)):
            self.assertIs(is_sign(3, sign), True)
        self.assertIs(is_sign(12, (0,) * 11 + (1,)), True)
        self.assertIs(is_sign(12, (0,) + (11,) * 11), True)

    def test_what_is_none(self):
        for thing in NOT_SIGNS:
            self.assertIs(is_sign(3, thing), False, thing)
        for thing in ((0, 0), (1, 0), (1, 1), (0, 2), (0, 3), (0, -1), (0, True), (False, 1)):
            self.assertIs(is_sign(2, thing), False, thing)
        for thing in ((1,), (-1,), (False,), (True,), (), (0, 0), [0], 0, ((0,),)):
            self.assertIs(is_sign(1, thing), False, thing)
        self.assertIs(is_sign(12, (0,) * 12), False)
        self.assertIs(is_sign(12, (0,) * 10 + (12, 1)), False)

    def test_it_is_told_of_anything(self):
        for p in range(2, 13):
            for thing in OTHERS:
                self.assertIs(is_sign(p, thing), False, thing)
        for thing in OTHERS:
            due = isinstance(thing, tuple) and len(thing) == 1 and thing[0] == 0 and thing[0] is not False
            self.assertIs(is_sign(1, thing), due, thing)

    def test_as_many_as_are_due(self):
        for p in range(1, 13):
            for many in range(1, 15):
                self.assertIs(is_sign(p, (0,) * (many - 1) + (1 % p,)), many == p and (p == 1 or many > 1))
        self.assertIs(is_sign(5, (0,) * 1999 + (1,)), False)

    def test_all_small_tuples(self):
        for p in range(1, 5):
            for row in itertools.product(range(-1, p + 1), repeat=p):
                self.assertIs(is_sign(p, row), is_sign_by_the_words(p, row), row)

    def test_large_tuples(self):
        chance = random.Random(26)
        for p in range(5, 13):
            for _ in range(200):
                row = (0, *[chance.randrange(p) for _ in range(p - 1)])
                self.assertIs(is_sign(p, row), is_sign_by_the_words(p, row), row)


class TestOneRound(unittest.TestCase):
    def test_ordinary_coders(self):
        self.assertIs(one_round((0, (0, 0, 0)), (1, (1, 0, 0))), True)
        self.assertIs(one_round((0, (0, 0, 0)), (1, (0, 0, 0))), False)
        self.assertIs(one_round((0, (0, 0, 0)), (0, (FAR // 3 * 3,) * 3)), True)

    def test_a_coder_and_itself(self):
        for coder in some_coders(27):
            self.assertIs(one_round(coder, coder), True)
            self.assertIs(one_round(coder, one_step(coder)), True)
            self.assertIs(one_round(many_steps(coder, 99), coder), True)

    def test_one_place_and_two_have_one_round(self):
        for p in (1, 2):
            for coder in small_coders(p, 3):
                for other in small_coders(p, 3):
                    self.assertIs(one_round(coder, other), True)

    def test_against_the_rounds_themselves(self):
        for p in (3, 4):
            chance = random.Random(28)
            coders = [chance_coder(chance, p, 2 * p) for _ in range(60)]
            rounds = [states_of_round(coder) for coder in coders]
            for coder, one in zip(coders, rounds):
                for other, two in zip(coders, rounds):
                    self.assertIs(one_round(coder, other), one == two, (coder, other))

    def test_of_many_places(self):
        chance = random.Random(29)
        for p in range(5, 13):
            coder = chance_coder(chance, p, p)
            within = states_of_round(coder)
            for _ in range(5):
                other = chance_coder(chance, p, p)
                self.assertIs(one_round(coder, other), state(into_round(other)) in within)

    def test_all_small_coders_have_as_many_signs_as_rounds(self):
        for p, many in ((1, 1), (2, 1), (3, 3), (4, 16)):
            found = {}
            for coder in small_coders(p, p - 1):
                found.setdefault(sign_of(coder), set()).add(frozenset(states_of_round(coder)))
            self.assertEqual(len(found), many)
            self.assertTrue(all(len(rounds) == 1 for rounds in found.values()))
            self.assertEqual(len(set.union(*found.values())), many)


class TestTreeBy(unittest.TestCase):
    def test_ordinary_signs(self):
        self.assertEqual(tree_by(1, (0,)), ())
        self.assertEqual(tree_by(2, (0, 1)), (0,))
        self.assertEqual(tree_by(3, (0, 2, 2)), (0, 1))
        self.assertEqual(tree_by(3, sign_of((0, (0, 2, 1)))), (0, 0))
        self.assertEqual(tree_by(3, sign_of((0, (0, 1, 1)))), (2, 0))

    def test_all_signs_of_one_to_four_places_against_all_trees(self):
        for p in range(1, 5):
            rows = itertools.product(range(p), repeat=p)
            signs = [row for row in rows if is_sign_by_the_words(p, row)]
            self.assertEqual(len(signs), len(all_trees(p)))
            told = [tree_by(p, sign) for sign in signs]
            self.assertEqual(sorted(told), all_trees(p))
            for sign, tree in zip(signs, told):
                self.assertEqual(sign_by_the_words(coder_of(p, tree)), sign)

    def test_all_trees_of_five_and_some_of_six_places(self):
        for tree in all_trees(5):
            self.assertEqual(tree_by(5, sign_by_the_words(coder_of(5, tree))), tree)
        for tree in all_trees(6)[::97]:
            self.assertEqual(tree_by(6, sign_by_the_words(coder_of(6, tree))), tree)

    def test_each_tree_of_six_places_has_a_sign_of_its_own(self):
        self.assertEqual(len({sign_of(coder_of(6, tree)) for tree in all_trees(6)}), 6 ** 4)

    def test_it_is_the_tree_of_each_coder_with_the_sign(self):
        for coder in some_coders(30):
            p = len(coder[1])
            if p <= 6:
                self.assertEqual(tree_by(p, sign_of(coder)), tree_of(coder))

    def test_the_kind_of_what_is_told(self):
        for p in (1, 2, 3):
            self.assertIs(type(tree_by(p, (0,) * (p - 1) + (1 % p,))), tuple)


class TestStepsBetween(unittest.TestCase):
    def test_ordinary_coders(self):
        self.assertEqual(steps_between((0, (0, 1)), (0, (0, 1))), 0)
        self.assertEqual(steps_between((0, (0, 1)), (1, (1, 1))), 1)
        self.assertEqual(steps_between((1, (1, 1)), (0, (0, 1))), 3)
        self.assertIsNone(steps_between((0, (0, 2, 1)), (0, (0, 1, 1))))

    def test_one_place(self):
        for one in (0, 1, FAR):
            for other in (0, 1, FAR):
                self.assertEqual(steps_between((0, (one,)), (0, (other,))), 0)

    def test_a_coder_and_itself_and_the_one_ahead_of_it(self):
        for p in (2, 3, 7, 12):
            coder = into_round(late_coder(p))
            self.assertEqual(steps_between(coder, coder), 0)
            self.assertEqual(steps_between(coder, one_step(coder)), 1)
            self.assertEqual(steps_between(one_step(coder), coder), p * p - 1)

    def test_all_along_a_round_and_behind_it(self):
        for p in (2, 3, 5, 12):
            coder = into_round((0, (0,) * p))
            for many in range(2 * p * p + 1):
                self.assertEqual(steps_between(coder, many_steps(coder, many)), many % (p * p))

    def test_all_small_coders_in_their_rounds(self):
        for p in range(1, 4):
            inside = [coder for coder in small_coders(p, p) if comes_back(coder)]
            for coder in inside[::2]:
                for other in inside[::3]:
                    self.assertEqual(steps_between(coder, other), between_by_the_words(coder, other))

    def test_lengths_far_apart(self):
        chance = random.Random(31)
        for p in range(1, 13):
            coder = into_round(chance_coder(chance, p, FAR))
            other = many_steps(coder, chance.randrange(p * p))
            moved = other[0], tuple(length + p * chance.randrange(FAR) for length in other[1])
            less = other[0], tuple(length % p for length in other[1])
            due = between_by_the_words(coder, other)
            self.assertEqual(steps_between(coder, moved), due)
            self.assertEqual(steps_between(coder, less), due)

    def test_none_just_where_the_rounds_are_unlike(self):
        chance = random.Random(32)
        for p in range(3, 13):
            coder = into_round(chance_coder(chance, p, p))
            for _ in range(4):
                other = into_round(chance_coder(chance, p, p))
                told = steps_between(coder, other)
                self.assertEqual(told is None, not one_round(coder, other))
                self.assertEqual(told, between_by_the_words(coder, other))

    def test_the_kind_of_what_is_told(self):
        self.assertIs(type(steps_between((0, (0,)), (0, (0,)))), int)
        self.assertIs(type(steps_between((1, (1, 1)), (0, (0, 1)))), int)


class TestRefusals(unittest.TestCase):
    def test_no_coder(self):
        for thing in NOT_CODERS + OTHERS:
            with self.assertRaises(NoCoder):
                sign_of(thing)
            for ask in (one_round, steps_between):
                for pair in ((thing, (0, (0,))), ((0, (0,)), thing), (thing, (0, (0, 0))), ((0, (0, 0)), thing)):
                    with self.assertRaises(NoCoder):
                        ask(*pair)

    def test_not_like(self):
        for ask in (one_round, steps_between):
            for p in range(1, 13):
                for q in range(1, 13):
                    if p != q:
                        with self.assertRaises(NotLike):
                            ask((0, (0,) * p), (0, (0,) * q))

    def test_not_round(self):
        inside, outside = (0, (0, 2, 1)), (0, (0, 0, 0))
        for pair in ((inside, outside), (outside, inside), (outside, outside), (outside, one_step(outside))):
            with self.assertRaises(NotRound):
                steps_between(*pair)

    def test_not_round_even_where_the_places_are_alike(self):
        coder = late_coder(5)
        with self.assertRaises(NotRound):
            steps_between(coder, into_round(coder))
        with self.assertRaises(NotRound):
            steps_between(into_round(coder), coder)

    def test_no_count_goes_ahead_of_all(self):
        for p in NOT_PLACES:
            for thing in ((0,), (0, 1), (0, 0, 1), None, (0,) * 12 + (1,)):
                with self.assertRaises(NoCount):
                    is_sign(p, thing)
                with self.assertRaises(NoCount):
                    tree_by(p, thing)
        for p in range(7, 13):
            for thing in ((0,) * (p - 1) + (1,), None):
                with self.assertRaises(NoCount):
                    tree_by(p, thing)

    def test_no_sign(self):
        for thing in NOT_SIGNS:
            with self.assertRaises(NoSign):
                tree_by(3, thing)
        for p in (2, 4, 5, 6):
            for thing in OTHERS + [(0,), (0,) * p, [0] * (p - 1) + [1], (0,) * p + (1,)]:
                with self.assertRaises(NoSign):
                    tree_by(p, thing)

    def test_nothing_that_is_handed_in_is_changed(self):
        thing = [0, 0, 1]
        with self.assertRaises(NoSign):
            tree_by(3, thing)
        self.assertIs(is_sign(3, thing), False)
        self.assertEqual(thing, [0, 0, 1])


if __name__ == "__main__":
    unittest.main()
