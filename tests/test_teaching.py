import itertools
import random
import unittest

from goings import FAR, NOT_CODERS, NOT_NUMBERS, chance_coder, late_coder, one_step, small_coders, some_coders
from looplearn.coders import coder_on
from looplearn.errors import NoCoder, NoCounts, NoSign
from looplearn.rounds import round_of
from looplearn.signs import is_sign, one_round, sign_of
from looplearn.teaching import least_teaching, taught
from looplearn.trees import all_trees, coder_of, tree_of
from looplearn.words import is_known
from things import OTHERS

# What are no counts for three places though they look like some.
NOT_COUNTS = [
    (), (0,), (0, 0), (0, 0, 0, 0), [0, 0, 0], (0, 0, -1), (-1, 0, 0), (0, -10 ** 36, 0), (True, 0, 0), (0, 0, False),
    (None, 0, 0), ("0", "0", "0"), "000", b"000", (0, (0,), 0), ((0, 0, 0),), (0, [0], 0), {0: 0, 1: 0, 2: 0},
    {0, 1, 2}, range(3), None, 0, 1, (0, 0, "1"), (0, {}, 0),
]

NOT_SIGNS = [
    (0, 0, 0), (1, 0, 0), (0, 1, 1), (0, 1), (0, 1, 0, 0), [0, 0, 1], (0, 0, True), (False, 0, 1), (0, 0, 4),
    (0, -1, 2), (0, None, 1), "001", None, 0, (), ((0, 0, 1),), (0, "0", 1), {0: 0, 1: 0, 2: 1}, (0, 3, 1),
]


def signs_of(p):
    """All signs of so many places."""
    return [row for row in itertools.product(range(p), repeat=p) if is_sign(p, row)]


def counts_of_sum(p, total):
    return [row for row in itertools.product(range(total + 1), repeat=p) if sum(row) == total]


def least_by_the_words(coder, sign):
    """Try all counts by their sum, those of one sum as they rise."""
    place, lengths = coder
    for total in itertools.count():
        for counts in counts_of_sum(len(lengths), total):
            if sign_of((place, tuple(map(sum, zip(lengths, counts))))) == sign:
                return counts


class TestTaught(unittest.TestCase):
    def test_ordinary_counts(self):
        self.assertEqual(taught((1, (2, 0, 1)), (0, 3, 1)), (1, (2, 3, 2)))
        self.assertEqual(taught((0, (0, 0)), (5, 0)), (0, (5, 0)))

    def test_counts_of_nought(self):
        for coder in some_coders(71):
            self.assertEqual(taught(coder, (0,) * len(coder[1])), coder)

    def test_one_place_and_twelve(self):
        self.assertEqual(taught((0, (4,)), (3,)), (0, (7,)))
        self.assertEqual(taught((11, (1,) * 12), tuple(range(12))), (11, tuple(range(1, 13))))

    def test_counts_of_many_figures(self):
        self.assertEqual(taught((0, (FAR, 0)), (10 ** 36, 10 ** 36 - 1)), (0, (FAR + 10 ** 36, 10 ** 36 - 1)))

    def test_each_length_is_as_much_more(self):
        chance = random.Random(72)
        for coder in some_coders(72):
            counts = tuple(chance.randrange(10 ** 12) for _ in coder[1])
            place, lengths = taught(coder, counts)
            self.assertEqual(place, coder[0])
            self.assertEqual([length - ahead for length, ahead in zip(lengths, coder[1])], list(counts))

    def test_against_what_is_known_of_a_loop(self):
        loop = "abcd"
        lengths, counts = (2, 0, 5, 1), (1, 4, 0, 2)
        known = {(loop * 4)[at:at + size] for at in range(4) for size in range(1, lengths[at] + counts[at] + 1)}
        self.assertTrue(is_known(tuple(sorted(known))))
        self.assertEqual(taught((0, lengths), counts), coder_on(loop, tuple(sorted(known))))

    def test_the_kinds_of_what_is_told(self):
        told = taught((0, (0, 0)), (1, 1))
        self.assertEqual([type(told), type(told[0]), type(told[1])], [tuple, int, tuple])

    def test_no_coder_goes_ahead(self):
        for thing in NOT_CODERS + OTHERS:
            for counts in ((0,), (0, 0), None, (-1,)):
                with self.assertRaises(NoCoder):
                    taught(thing, counts)

    def test_no_counts(self):
        for thing in NOT_COUNTS + OTHERS:
            with self.assertRaises(NoCounts):
                taught((0, (1, 2, 3)), thing)
        for thing in NOT_NUMBERS + [-1, -10 ** 36]:
            for counts in ((0, thing), (thing, 0), thing):
                with self.assertRaises(NoCounts):
                    taught((0, (0, 0)), counts)
        for p in range(1, 13):
            for many in range(14):
                if many != p:
                    with self.assertRaises(NoCounts):
                        taught((0, (0,) * p), (0,) * many)


class TestLeastTeaching(unittest.TestCase):
    def test_ordinary_coders(self):
        self.assertEqual(least_teaching((0, (0, 0, 0)), (0, 2, 2)), (0, 0, 0))
        self.assertEqual(sign_of((0, (0, 0, 1))), (0, 0, 1))
        self.assertEqual(least_teaching((0, (0, 0, 0)), (0, 0, 1)), (0, 0, 1))
        self.assertEqual(least_teaching((0, (0, 0, 0)), (0, 1, 0)), least_by_the_words((0, (0, 0, 0)), (0, 1, 0)))

    def test_of_its_own_sign_nothing_is_taught(self):
        for coder in some_coders(73):
            if len(coder[1]) <= 6:
                self.assertEqual(least_teaching(coder, sign_of(coder)), (0,) * len(coder[1]))

    def test_one_place_and_two(self):
        for length in (0, 1, FAR):
            self.assertEqual(least_teaching((0, (length,)), (0,)), (0,))
        for coder in small_coders(2, 3):
            self.assertEqual(least_teaching(coder, (0, 1)), (0, 0))

    def test_three_places_by_the_words(self):
        for coder in small_coders(3, 3):
            for sign in signs_of(3):
                self.assertEqual(least_teaching(coder, sign), least_by_the_words(coder, sign), (coder, sign))

    def test_four_and_five_places_by_the_words(self):
        chance = random.Random(74)
        for p, many, most in ((4, 40, 6), (5, 25, 6)):
            for _ in range(many):
                coder, sign = chance_coder(chance, p, 40), chance.choice(signs_of(p))
                counts = least_teaching(coder, sign)
                if sum(counts) <= most:
                    self.assertEqual(counts, least_by_the_words(coder, sign), (coder, sign))
                self.assertEqual(sign_of(taught(coder, counts)), sign)

    def test_six_places_by_the_words(self):
        chance = random.Random(75)
        signs = signs_of(6)
        checked = 0
        while checked < 12:
            coder, sign = chance_coder(chance, 6, FAR), chance.choice(signs)
            counts = least_teaching(coder, sign)
            self.assertEqual(sign_of(taught(coder, counts)), sign)
            if sum(counts) <= 4:
                self.assertEqual(counts, least_by_the_words(coder, sign), (coder, sign))
                checked += 1

    def test_no_fewer_are_enough(self):
        coder = late_coder(5)
        place, lengths = coder
        by_sign = {}
        for total in range(13):
            for counts in itertools.product(range(min(5, total + 1)), repeat=5):
                if sum(counts) == total:
                    sign = sign_of((place, tuple(map(sum, zip(lengths, counts)))))
                    by_sign.setdefault(sign, counts)
        self.assertEqual(len(by_sign), 125)
        for sign, counts in by_sign.items():
            self.assertEqual(least_teaching(coder, sign), counts)

    def test_each_round_can_be_wished_for(self):
        for p in range(1, 5):
            coder = late_coder(p)
            for tree in all_trees(p):
                wished = coder_of(p, tree)
                then = taught(coder, least_teaching(coder, sign_of(wished)))
                self.assertIs(one_round(then, wished), True)
                self.assertEqual(tree_of(then), tree)
                self.assertEqual(sorted(round_of(then)), sorted(round_of(wished)))

    def test_a_coder_gone_on_may_want_other_counts_though_its_sign_is_one(self):
        coder = 0, (0, 0, 0, 0)
        found = set()
        for _ in range(20):
            found.add(least_teaching(coder, (0, 0, 0, 1)))
            coder = one_step(coder)
        self.assertGreater(len(found), 1)

    def test_the_kinds_of_what_is_told(self):
        told = least_teaching((0, (0, 0, 0)), (0, 0, 1))
        self.assertEqual({type(told), *map(type, told)}, {tuple, int})

    def test_no_coder_goes_ahead(self):
        for thing in NOT_CODERS + OTHERS:
            for sign in ((0,), (0, 1), None):
                with self.assertRaises(NoCoder):
                    least_teaching(thing, sign)

    def test_no_coder_of_seven_places_and_more(self):
        for p in range(7, 13):
            for sign in ((0,) * (p - 1) + (1,), (0,) * p, None):
                with self.assertRaises(NoCoder):
                    least_teaching((0, (0,) * p), sign)
        self.assertEqual(least_teaching((0, (0,) * 6), sign_of((0, (0,) * 6))), (0,) * 6)

    def test_no_sign(self):
        for thing in NOT_SIGNS + OTHERS:
            with self.assertRaises(NoSign):
                least_teaching((0, (0, 0, 0)), thing)
        for p in range(1, 7):
            for q in range(1, 9):
                if p != q:
                    with self.assertRaises(NoSign):
                        least_teaching((0, (0,) * p), (0,) * (q - 1) + (1 % q,))


if __name__ == "__main__":
    unittest.main()
