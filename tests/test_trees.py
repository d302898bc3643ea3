import itertools
import random
import unittest

from goings import (
    FAR, NOT_CODERS, NOT_NUMBERS, chance_coder, comes_back, late_coder, many_steps, one_step, small_coders,
)
from looplearn.errors import NoCoder, NoCount, NoTree
from looplearn.rounds import in_round, round_of
from looplearn.trees import all_trees, coder_of, is_tree, tree_of
from things import OTHERS

NOT_PLACES = NOT_NUMBERS + [0, -1, 13, 10 ** 36, -10 ** 36]

NOT_TREES = [
    (1, 0), (2, 1), (0, 2), (1, 2), (0,), (0, 0, 0), (), [0, 0], [1, 1], (0, 3), (3, 0), (-1, 0), (0, -1), (0, -2),
    (False, False), (0, False), (True, 0), (2, True), (0, None), ("0", "0"), "00", (0, "0"), ((0,), 0), (0, (0,)),
    ((0, 0),), b"\x00\x00", {0: 0}, {0, 1}, range(2), (0, []), (0, {}), 0, None, (10 ** 36, 0), (-10 ** 36, 0),
]


def is_tree_by_the_words(p, tree):
    """From each place go on, up to p times, till place 0 is come to."""
    for start in range(1, p):
        place = start
        for _ in range(p):
            if place != 0:
                place = tree[place - 1]
        if place != 0:
            return False
    return True


def tree_by_the_words(coder):
    p = len(coder[1])
    while not (comes_back(coder) and coder[0] == 0 and coder[1][0] % p == 0):
        coder = one_step(coder)
    return tuple((place + coder[1][place]) % p for place in range(1, p))


def chance_tree(chance, p):
    while True:
        tree = tuple(chance.randrange(p) for _ in range(p - 1))
        if is_tree_by_the_words(p, tree):
            return tree


class TestTreeOf(unittest.TestCase):
    def test_ordinary_coders(self):
        self.assertEqual(tree_of((0, (0, 1))), (0,))
        self.assertEqual(tree_of((0, (0, 2, 1))), (0, 0))
        self.assertEqual(tree_of((0, (0, 1, 1))), (2, 0))
        self.assertEqual(tree_of((0, (0, 2, 2))), (0, 1))

    def test_one_place(self):
        self.assertEqual(tree_of((0, (0,))), ())
        self.assertEqual(tree_of((0, (FAR,))), ())

    def test_two_places_have_one_tree(self):
        for coder in small_coders(2, 3):
            self.assertEqual(tree_of(coder), (0,))

    def test_all_small_coders(self):
        for p in range(1, 5):
            for coder in small_coders(p, p - 1):
                self.assertEqual(tree_of(coder), tree_by_the_words(coder), coder)

    def test_other_coders(self):
        chance = random.Random(8)
        for p in range(1, 13):
            coders = [late_coder(p), (0, (0,) * p), (p - 1, (FAR,) * p)]
            for most in (1, p, FAR):
                coders.extend(chance_coder(chance, p, most) for _ in range(3))
            for coder in coders:
                told = tree_of(coder)
                self.assertEqual(told, tree_by_the_words(coder), coder)
                self.assertIs(is_tree(p, told), True)

    def test_all_along_a_round_it_is_one(self):
        for p in (3, 7, 12):
            coder = late_coder(p)
            due = tree_of(coder)
            for _ in range((p - 1) ** 2 + 2 + p * p):
                coder = one_step(coder)
                self.assertEqual(tree_of(coder), due)

    def test_it_tells_the_rounds_apart(self):
        for p in range(1, 5):
            found = {}
            for coder in small_coders(p, p - 1):
                words = round_of(coder)
                at = words.index((0, 0))
                found.setdefault(tree_of(coder), set()).add(tuple(words[at:] + words[:at]))
            self.assertEqual(sorted(found), all_trees(p))
            rounds = [some for row in found.values() for some in row]
            self.assertEqual(len(rounds), len(found))
            self.assertEqual(len(set(rounds)), len(found))

    def test_the_kind_of_what_is_told(self):
        self.assertIs(type(tree_of((0, (0,)))), tuple)
        self.assertIs(type(tree_of((0, (0, 0, 0)))), tuple)


class TestIsTree(unittest.TestCase):
    def test_ordinary_trees(self):
        self.assertIs(is_tree(1, ()), True)
        self.assertIs(is_tree(2, (0,)), True)
        self.assertIs(is_tree(3, (0, 0)), True)
        self.assertIs(is_tree(3, (0, 1)), True)
        self.assertIs(is_tree(3, (2, 0)), True)
        self.assertIs(is_tree(12, (0,) * 11), True)
        self.assertIs(is_tree(12, tuple(range(11))), True)
        self.assertIs(is_tree(12, tuple(range(2, 12)) + (0,)), True)

    def test_what_is_none(self):
        for thing in NOT_TREES:
            self.assertIs(is_tree(3, thing), False, thing)
        self.assertIs(is_tree(2, (1,)), False)
        self.assertIs(is_tree(12, tuple(range(1, 12))), False)
        self.assertIs(is_tree(12, tuple(range(2, 12)) + (1,)), False)
        self.assertIs(is_tree(12, (0,) * 10 + (11,)), False)
        self.assertIs(is_tree(4, (0, 3, 2)), False)
        self.assertIs(is_tree(4, (2, 3, 1)), False)

    def test_one_place_has_just_one(self):
        for thing in OTHERS + [(0,), [], "", [()], ((),)]:
            self.assertIs(is_tree(1, thing), False, thing)

    def test_it_is_told_of_anything(self):
        for p in range(2, 13):
            for thing in OTHERS:
                due = p == 2 and thing == (0,) and thing[0] is not False
                self.assertIs(is_tree(p, thing), due, thing)

    def test_truths_are_no_places(self):
        self.assertIs(is_tree(2, (False,)), False)
        self.assertIs(is_tree(3, (False, 0)), False)
        self.assertIs(is_tree(3, (0, True)), False)

    def test_as_many_as_are_due(self):
        for p in range(1, 13):
            for many in range(14):
                self.assertIs(is_tree(p, (0,) * many), many == p - 1)
        self.assertIs(is_tree(5, (0,) * 2000), False)

    def test_all_small_tuples(self):
        for p in range(1, 6):
            for row in itertools.product(range(-1, p + 1), repeat=p - 1):
                due = all(0 <= place < p for place in row) and is_tree_by_the_words(p, row)
                self.assertIs(is_tree(p, row), due, row)

    def test_large_tuples(self):
        chance = random.Random(9)
        for p in range(6, 13):
            self.assertIs(is_tree(p, chance_tree(chance, p)), True)
            for _ in range(100):
                row = tuple(chance.randrange(p) for _ in range(p - 1))
                self.assertIs(is_tree(p, row), is_tree_by_the_words(p, row), row)


class TestCoderOf(unittest.TestCase):
    def test_ordinary_trees(self):
        self.assertEqual(coder_of(2, (0,)), (0, (0, 1)))
        self.assertEqual(coder_of(3, (0, 0)), (0, (0, 2, 1)))
        self.assertEqual(coder_of(3, (2, 0)), (0, (0, 1, 1)))
        self.assertEqual(coder_of(3, (0, 1)), (0, (0, 2, 2)))

    def test_one_place_and_twelve(self):
        self.assertEqual(coder_of(1, ()), (0, (0,)))
        self.assertEqual(coder_of(12, (0,) * 11), (0, (0,) + tuple(range(11, 0, -1))))
        self.assertEqual(coder_of(12, tuple(range(11))), (0, (0,) + (11,) * 11))

    def test_it_is_the_least_with_these_last_goings(self):
        for p in range(1, 6):
            for tree in all_trees(p):
                place, lengths = coder_of(p, tree)
                self.assertEqual((place, lengths[0]), (0, 0))
                self.assertTrue(all(0 <= length < p for length in lengths))
                led = tuple((at + lengths[at]) % p for at in range(1, p))
                self.assertEqual(led, tree)

    def test_it_is_in_the_round_of_the_tree(self):
        chance = random.Random(10)
        for p in range(1, 6):
            for tree in all_trees(p):
                self.assertIs(in_round(coder_of(p, tree)), True)
                self.assertEqual(tree_of(coder_of(p, tree)), tree)
        for p in range(6, 13):
            tree = chance_tree(chance, p)
            self.assertIs(comes_back(coder_of(p, tree)), True)
            self.assertEqual(tree_of(many_steps(coder_of(p, tree), 77)), tree)

    def test_the_kinds_of_what_is_told(self):
        told = coder_of(3, (0, 0))
        self.assertEqual([type(told), type(told[0]), type(told[1])], [tuple, int, tuple])


class TestAllTrees(unittest.TestCase):
    def test_few_places(self):
        self.assertEqual(all_trees(1), [()])
        self.assertEqual(all_trees(2), [(0,)])
        self.assertEqual(all_trees(3), [(0, 0), (0, 1), (2, 0)])

    def test_how_many_they_are(self):
        for p, many in ((1, 1), (2, 1), (3, 3), (4, 16), (5, 125), (6, 1296)):
            self.assertEqual(len(all_trees(p)), many)

    def test_they_are_all_and_rising(self):
        for p in range(1, 7):
            rows = itertools.product(range(p), repeat=p - 1)
            due = [row for row in rows if is_tree_by_the_words(p, row)]
            self.assertEqual(all_trees(p), due)
            self.assertEqual(all_trees(p), sorted(due))

    def test_the_kinds_of_what_is_told(self):
        for p in range(1, 5):
            told = all_trees(p)
            self.assertIs(type(told), list)
            self.assertTrue(all(type(tree) is tuple for tree in told))

    def test_the_list_is_the_askers_own(self):
        first = all_trees(3)
        first.pop()
        first[0] = None
        self.assertEqual(all_trees(3), [(0, 0), (0, 1), (2, 0)])
        self.assertIsNot(all_trees(1), all_trees(1))


class TestRefusals(unittest.TestCase):
    def test_no_coder(self):
        for thing in NOT_CODERS + OTHERS:
            with self.assertRaises(NoCoder):
                tree_of(thing)

    def test_no_count(self):
        for p in NOT_PLACES:
            for thing in ((), (0,), (0,) * 12, None):
                with self.assertRaises(NoCount):
                    is_tree(p, thing)
                with self.assertRaises(NoCount):
                    coder_of(p, thing)
        for p in NOT_PLACES + [7, 8, 12]:
            with self.assertRaises(NoCount):
                all_trees(p)

    def test_no_tree(self):
        for thing in NOT_TREES:
            with self.assertRaises(NoTree):
                coder_of(3, thing)
        for thing in OTHERS:
            with self.assertRaises(NoTree):
                coder_of(4, thing)
            with self.assertRaises(NoTree):
                coder_of(1, thing)

    def test_nothing_that_is_handed_in_is_changed(self):
        thing = [0, 0]
        with self.assertRaises(NoTree):
            coder_of(3, thing)
        self.assertEqual(thing, [0, 0])


if __name__ == "__main__":
    unittest.main()
