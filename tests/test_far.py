import random
import unittest

from goings import (
    FAR, NOT_CODERS, NOT_NUMBERS, chance_coder, late_coder, many_steps, one_step, some_coders, words_in_turn,
)
from looplearn.errors import NoCoder, NoCount, NoPlace
from looplearn.far import learnt_by, letters_by, longest_by, number_at, pair_at, word_at
from looplearn.words import cut, pairs
from things import OTHERS

MOST = 10 ** 18
LAST = 10 ** 36
TOO_FEW = [-1, -10 ** 36]

# Far apart: one length is much greater than the others.
FAR_APART = [
    (0, (0, FAR)), (1, (0, FAR)), (0, (0, 0, FAR)), (2, (FAR, 1, FAR)), (1, (5, FAR - 1, 0, 2)),
    (7, (0,) * 11 + (FAR,)), (0, (FAR,) + (0,) * 11), (3, (10 ** 15, 0, 10 ** 29, 7, 1)),
]


def pair_by_the_words(coder, words, number):
    """Look for what the word of this number lengthens among all words ahead of it."""
    place, length = words[number - 1]
    last = (place + length - 1) % len(coder[1])
    if length == 1:
        return 0, last
    if (place, length - 1) in words[:number - 1]:
        return words.index((place, length - 1)) + 1, last
    return (place, length - 1), last


def some_numbers(words):
    """The words with their numbers: the first ones, then only each seventh."""
    return [(number, word) for number, word in enumerate(words, start=1) if number < 20 or number % 7 == 0]


def far_numbers(chance):
    return [MOST, MOST - 1, 10 ** 9, 10 ** 6 + 7] + [chance.randint(1, MOST) for _ in range(4)]


class TestWordAt(unittest.TestCase):
    def test_ordinary_numbers(self):
        self.assertEqual(word_at((0, (2, 0, 1)), 1), (0, 3))
        self.assertEqual(word_at((0, (2, 0, 1)), 2), (0, 4))
        self.assertEqual(word_at((0, (2, 0, 1)), 3), (1, 1))

    def test_one_place(self):
        for number in (1, 2, 77, MOST):
            self.assertEqual(word_at((0, (0,)), number), (0, number))
            self.assertEqual(word_at((0, (FAR,)), number), (0, FAR + number))

    def test_against_word_by_word(self):
        for coder in [*some_coders(41), *FAR_APART]:
            for number, word in some_numbers(words_in_turn(coder, 350)):
                self.assertEqual(word_at(coder, number), word)

    def test_thousands_of_words(self):
        for coder in (late_coder(5), late_coder(12), (0, (0, FAR, 3))):
            for number, word in list(enumerate(words_in_turn(coder, 20000), start=1))[::397]:
                self.assertEqual(word_at(coder, number), word)

    def test_as_far_as_may_be(self):
        self.assertEqual(word_at((0, (0, 1)), MOST), (0, MOST // 2))
        self.assertEqual(word_at((0, (0, 1)), MOST - 1), (1, MOST // 2 + 1))
        self.assertEqual(word_at((0, (0, 1)), MOST - 3), (0, MOST // 2 - 1))

    def test_the_kinds_of_what_is_told(self):
        told = word_at((0, (0, 0)), 5)
        self.assertEqual([type(told), type(told[0]), type(told[1])], [tuple, int, int])


class TestLettersBy(unittest.TestCase):
    def test_ordinary_numbers(self):
        self.assertEqual(letters_by((0, (2, 0, 1)), 0), 0)
        self.assertEqual(letters_by((0, (2, 0, 1)), 1), 3)
        self.assertEqual(letters_by((0, (2, 0, 1)), 2), 7)
        self.assertEqual(letters_by((0, (2, 0, 1)), 3), 8)

    def test_one_place(self):
        self.assertEqual(letters_by((0, (0,)), MOST), MOST * (MOST + 1) // 2)
        self.assertEqual(letters_by((0, (FAR,)), MOST), FAR * MOST + MOST * (MOST + 1) // 2)

    def test_against_word_by_word(self):
        for coder in [*some_coders(42), *FAR_APART]:
            words = words_in_turn(coder, 350)
            for number, _ in some_numbers(words):
                due = sum(length for _, length in words[:number])
                self.assertEqual(letters_by(coder, number), due)

    def test_far_numbers(self):
        chance = random.Random(43)
        for coder in [*some_coders(43), *FAR_APART]:
            for many in far_numbers(chance):
                more = letters_by(coder, many) - letters_by(coder, many - 1)
                self.assertEqual(more, word_at(coder, many)[1])

    def test_it_is_a_whole_number(self):
        self.assertIs(type(letters_by((0, (0,)), 0)), int)
        self.assertIs(type(letters_by((0, (0, 1)), 7)), int)


class TestNumberAt(unittest.TestCase):
    def test_ordinary_letters(self):
        due = [1, 1, 1, 2, 2, 2, 2, 3, 4]
        self.assertEqual([number_at((0, (2, 0, 1)), letter) for letter in range(9)], due)

    def test_one_place(self):
        self.assertEqual([number_at((0, (0,)), letter) for letter in range(7)], [1, 2, 2, 3, 3, 3, 4])
        self.assertEqual(number_at((0, (FAR,)), FAR), 1)
        self.assertEqual(number_at((0, (FAR,)), FAR + 1), 2)
        self.assertEqual(number_at((0, (FAR,)), 0), 1)

    def test_against_word_by_word(self):
        for coder in some_coders(44):
            if max(coder[1]) <= 12:
                words = words_in_turn(coder, 350)
                for number, (_, length) in some_numbers(words):
                    letter = sum(length for _, length in words[:number - 1])
                    self.assertEqual(number_at(coder, letter), number)
                    self.assertEqual(number_at(coder, letter + length - 1), number)

    def test_each_letter_in_turn(self):
        for coder in ((0, (0, 0, 0)), (2, (4, 0, 7)), late_coder(6)):
            letter = 0
            for number, (_, length) in enumerate(words_in_turn(coder, 60), start=1):
                for _ in range(length):
                    self.assertEqual(number_at(coder, letter), number)
                    letter += 1

    def test_lengths_far_apart(self):
        for coder in FAR_APART:
            letter = 0
            for number, (_, length) in enumerate(words_in_turn(coder, 350), start=1):
                if letter + length <= LAST:
                    self.assertEqual(number_at(coder, letter), number)
                    self.assertEqual(number_at(coder, letter + length - 1), number)
                letter += length

    def test_far_words(self):
        chance = random.Random(45)
        for coder in [*some_coders(45), *FAR_APART]:
            for number in far_numbers(chance):
                ahead, behind = letters_by(coder, number - 1), letters_by(coder, number)
                due_of = ((ahead - 1, number - 1), (ahead, number), (behind - 1, number), (behind, number + 1))
                for letter, due in due_of:
                    if 0 <= letter <= LAST:
                        self.assertEqual(number_at(coder, letter), due)

    def test_the_last_letter(self):
        # Of one place the first so many words have as many letters as numbers added up.
        number = number_at((0, (0,)), LAST)
        self.assertLessEqual(number * (number - 1) // 2, LAST)
        self.assertGreater(number * (number + 1) // 2, LAST)
        self.assertGreater(number, MOST)
        for coder in some_coders(46):
            self.assertLessEqual(number_at(coder, LAST - 1), number_at(coder, LAST))
            if max(coder[1]) <= 12:
                self.assertGreater(number_at(coder, LAST), MOST)

    def test_a_word_above_the_greatest_number(self):
        coder = 0, (0,) * 12
        number = number_at(coder, LAST)
        # Behind so many whole rounds each length is 12 more than behind one round fewer.
        rounds = (number - 300) // 144
        begun = many_steps(coder, 122)
        then = begun[0], tuple(length + 12 * rounds for length in begun[1])
        letters = sum(length * (length + 1) // 2 for length in then[1])
        many = 122 + 144 * rounds
        while letters <= LAST:
            letters += then[1][then[0]] + 1
            then = one_step(then)
            many += 1
        self.assertEqual(number, many)

    def test_it_is_a_whole_number(self):
        self.assertIs(type(number_at((0, (0,)), 0)), int)


class TestLearntBy(unittest.TestCase):
    def test_ordinary_words(self):
        coder = 0, (2, 0, 1)
        self.assertEqual([learnt_by(coder, 0, length) for length in (1, 2, 3, 4)], [0, 0, 1, 2])
        self.assertEqual(learnt_by(coder, 1, 1), 3)
        self.assertEqual(learnt_by(coder, 2, 1), 0)

    def test_one_place(self):
        self.assertEqual(learnt_by((0, (0,)), 0, 1), 1)
        self.assertEqual(learnt_by((0, (0,)), 0, MOST), MOST)
        self.assertEqual(learnt_by((0, (5,)), 0, 5), 0)
        self.assertEqual(learnt_by((0, (5,)), 0, 6), 1)
        self.assertEqual(learnt_by((0, (FAR,)), 0, MOST), 0)

    def test_against_word_by_word(self):
        for coder in [*some_coders(47), *FAR_APART]:
            for number, (place, length) in some_numbers(words_in_turn(coder, 350)):
                if length <= MOST:
                    self.assertEqual(learnt_by(coder, place, length), number)

    def test_known_at_first(self):
        for coder in [*some_coders(48), *FAR_APART]:
            for place, most in enumerate(coder[1]):
                for length in (1, 2, most - 1, most):
                    if 1 <= length <= min(most, MOST):
                        self.assertEqual(learnt_by(coder, place, length), 0)
                if most < MOST:
                    self.assertGreater(learnt_by(coder, place, most + 1), 0)

    def test_far_words(self):
        chance = random.Random(49)
        for coder in [*some_coders(49), *FAR_APART]:
            for number in far_numbers(chance):
                place, length = word_at(coder, number)
                if length <= MOST:
                    self.assertEqual(learnt_by(coder, place, length), number)

    def test_the_longest_word_that_is_told_of(self):
        # In a round each place begins as many words as there are places.
        for p in range(1, 13):
            coder = 0, (0,) * p
            for place in range(p):
                told = learnt_by(coder, place, MOST)
                self.assertEqual(told - learnt_by(coder, place, MOST - p * 10 ** 9), p * p * 10 ** 9)
                self.assertLessEqual(abs(told - p * MOST), p * p)

    def test_it_is_a_whole_number(self):
        self.assertIs(type(learnt_by((0, (0,)), 0, 1)), int)
        self.assertIs(type(learnt_by((0, (1,)), 0, 1)), int)


class TestLongestBy(unittest.TestCase):
    def test_ordinary_numbers(self):
        due = [2, 3, 4, 4, 4]
        self.assertEqual([longest_by((0, (2, 0, 1)), many) for many in range(5)], due)

    def test_where_nothing_is_known(self):
        for p in range(1, 13):
            self.assertEqual(longest_by((0, (0,) * p), 0), 0)
            self.assertEqual(longest_by((0, (0,) * p), 1), 1)

    def test_one_place(self):
        self.assertEqual(longest_by((0, (0,)), MOST), MOST)
        self.assertEqual(longest_by((0, (FAR,)), MOST), FAR + MOST)

    def test_against_word_by_word(self):
        for coder in [*some_coders(50), *FAR_APART]:
            self.assertEqual(longest_by(coder, 0), max(coder[1]))
            words = words_in_turn(coder, 350)
            for number, _ in some_numbers(words):
                due = max([length for _, length in words[:number]] + list(coder[1]))
                self.assertEqual(longest_by(coder, number), due)

    def test_a_word_that_is_known_at_first_stays_the_longest(self):
        self.assertEqual(longest_by((0, (0, FAR)), 1), FAR)
        self.assertEqual(longest_by((0, (0, FAR)), 2), FAR + 1)
        self.assertEqual(longest_by((0, (3, 10 ** 20, 5)), 1), 10 ** 20)

    def test_far_numbers(self):
        chance = random.Random(51)
        for coder in some_coders(51):
            p = len(coder[1])
            if p % 3 == 0:
                for many in far_numbers(chance)[::3]:
                    words = [word_at(coder, number) for number in range(many - p * p + 1, many + 1)]
                    due = max([length for _, length in words] + list(coder[1]))
                    self.assertEqual(longest_by(coder, many), due)

    def test_it_is_a_whole_number(self):
        self.assertIs(type(longest_by((0, (0,)), 0)), int)


class TestPairAt(unittest.TestCase):
    def test_ordinary_numbers(self):
        coder = 0, (2, 0, 1)
        self.assertEqual(pair_at(coder, 1), ((0, 2), 2))
        self.assertEqual(pair_at(coder, 2), (1, 0))
        self.assertEqual(pair_at(coder, 3), (0, 1))

    def test_one_place(self):
        self.assertEqual(pair_at((0, (0,)), 1), (0, 0))
        self.assertEqual(pair_at((0, (0,)), 2), (1, 0))
        self.assertEqual(pair_at((0, (0,)), MOST), (MOST - 1, 0))
        self.assertEqual(pair_at((0, (FAR,)), 1), ((0, FAR), 0))
        self.assertEqual(pair_at((0, (FAR,)), MOST), (MOST - 1, 0))

    def test_against_word_by_word(self):
        for coder in [*some_coders(52), *FAR_APART]:
            words = words_in_turn(coder, 350)
            for number, _ in some_numbers(words):
                self.assertEqual(pair_at(coder, number), pair_by_the_words(coder, words, number))

    def test_against_the_pairs_of_a_text(self):
        loop = "abcde"
        text = loop * 300
        coder = 0, (0,) * 5
        for number, (what, letter) in enumerate(pairs((), text), start=1):
            self.assertEqual(pair_at(coder, number), (what, loop.index(letter)))
        self.assertEqual(len(cut((), text)[0]), number)

    def test_far_numbers(self):
        chance = random.Random(53)
        for coder in [*some_coders(53), *FAR_APART]:
            for number in far_numbers(chance):
                place, length = word_at(coder, number)
                what, last = pair_at(coder, number)
                self.assertEqual(last, (place + length - 1) % len(coder[1]))
                if length - 1 <= coder[1][place]:
                    self.assertEqual(what, (place, length - 1) if length > 1 else 0)
                else:
                    self.assertTrue(1 <= what < number)
                    self.assertEqual(word_at(coder, what), (place, length - 1))

    def test_the_kinds_of_what_is_told(self):
        self.assertEqual([type(thing) for thing in pair_at((0, (0,)), 1)], [int, int])
        self.assertEqual([type(thing) for thing in pair_at((0, (0,)), 2)], [int, int])
        told = pair_at((0, (1,)), 1)
        self.assertEqual([type(told), type(told[0]), type(told[1])], [tuple, tuple, int])


class TestRefusals(unittest.TestCase):
    def test_no_coder_goes_ahead(self):
        for thing in NOT_CODERS + OTHERS:
            for number in (1, 0, None, True):
                for ask in (word_at, letters_by, number_at, longest_by, pair_at):
                    with self.assertRaises(NoCoder):
                        ask(thing, number)
                with self.assertRaises(NoCoder):
                    learnt_by(thing, number, number)

    def test_no_count(self):
        coder = 0, (0, 3)
        for ask in (word_at, pair_at):
            for number in NOT_NUMBERS + TOO_FEW + [0, MOST + 1, LAST]:
                with self.assertRaises(NoCount):
                    ask(coder, number)
        for ask in (letters_by, longest_by):
            for number in NOT_NUMBERS + TOO_FEW + [MOST + 1, LAST]:
                with self.assertRaises(NoCount):
                    ask(coder, number)
        for letter in NOT_NUMBERS + TOO_FEW + [LAST + 1]:
            with self.assertRaises(NoCount):
                number_at(coder, letter)
        for length in NOT_NUMBERS + TOO_FEW + [0, MOST + 1, LAST]:
            for place in (0, 1):
                with self.assertRaises(NoCount):
                    learnt_by(coder, place, length)

    def test_no_count_of_what_a_number_would_be_known_at_first(self):
        with self.assertRaises(NoCount):
            learnt_by((0, (FAR,)), 0, MOST + 1)

    def test_no_place_goes_ahead_of_no_count(self):
        for p in (1, 2, 12):
            for place in NOT_NUMBERS + TOO_FEW + [p, p + 1, LAST, -p]:
                for length in (1, 0, MOST + 1, None, True):
                    with self.assertRaises(NoPlace):
                        learnt_by((0, (0,) * p), place, length)

    def test_the_edges_are_told(self):
        coder = many_steps(chance_coder(random.Random(54), 7, 7), 3)
        self.assertEqual(letters_by(coder, 0), 0)
        self.assertEqual(number_at(coder, 0), 1)
        self.assertEqual(word_at(coder, 1), words_in_turn(coder, 1)[0])
        for ask in (word_at, letters_by, longest_by, pair_at):
            self.assertIsNotNone(ask(coder, MOST))
        self.assertIsNotNone(number_at(coder, LAST))
        self.assertIsNotNone(learnt_by(coder, 6, MOST))


if __name__ == "__main__":
    unittest.main()
