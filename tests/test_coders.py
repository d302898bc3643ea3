import itertools
import random
import unittest

from goings import (
    FAR, NOT_CODERS, NOT_NUMBERS, chance_coder, comes_back, late_coder, many_steps, one_step, small_coders,
)
from looplearn.coders import behind, coder_on, is_coder, step, words_of
from looplearn.errors import NoCoder, NoCount, NoKnown, NoLoop
from looplearn.words import cut, known_behind
from things import OTHERS

NOT_PLAIN = ["aa", "aba", "abab", "noon", "abcdefghijka", "a" * 12]


class TestIsCoder(unittest.TestCase):
    def test_coders(self):
        for coder in [(0, (0,)), (0, (5,)), (0, (0, 0)), (1, (0, 0)), (2, (3, 1, 4)), (11, (0,) * 12),
                      (0, tuple(range(12))), (0, (FAR,)), (1, (0, FAR)), (0, (10 ** 60, 0))]:
            self.assertIs(is_coder(coder), True, coder)

    def test_what_is_none(self):
        for thing in NOT_CODERS + OTHERS:
            self.assertIs(is_coder(thing), False, thing)

    def test_how_many_places(self):
        for p in range(30):
            for place in range(-3, 33):
                self.assertIs(is_coder((place, (1,) * p)), p <= 12 and 0 <= place < p, (place, p))

    def test_truths_are_no_numbers(self):
        for at in range(3):
            lengths = [0, 1, 2]
            for truth in (True, False):
                lengths[at] = truth
                self.assertIs(is_coder((0, tuple(lengths))), False)


class TestStep(unittest.TestCase):
    def test_ordinary_steps(self):
        self.assertEqual(step((0, (0, 0, 0))), (1, (1, 0, 0)))
        self.assertEqual(step((1, (1, 0, 0))), (2, (1, 1, 0)))
        self.assertEqual(step((2, (1, 1, 0))), (0, (1, 1, 1)))
        self.assertEqual(step((0, (1, 1, 1))), (2, (2, 1, 1)))
        self.assertEqual(step((2, (7, 5, 9))), (0, (7, 5, 10)))

    def test_a_word_as_long_as_the_loop_leads_back(self):
        self.assertEqual(step((1, (0, 2, 0))), (1, (0, 3, 0)))
        self.assertEqual(step((1, (0, FAR * 3 - 1, 0))), (1, (0, FAR * 3, 0)))

    def test_one_place(self):
        self.assertEqual(step((0, (0,))), (0, (1,)))
        self.assertEqual(step((0, (FAR,))), (0, (FAR + 1,)))

    def test_twelve_places(self):
        self.assertEqual(step((11, (0,) * 12)), (0, (0,) * 11 + (1,)))
        self.assertEqual(step((11, (0,) * 11 + (10,))), (10, (0,) * 11 + (11,)))
        self.assertEqual(step((11, (0,) * 11 + (FAR,))), ((11 + FAR + 1) % 12, (0,) * 11 + (FAR + 1,)))

    def test_all_small_coders(self):
        for p in range(1, 5):
            for coder in small_coders(p, p):
                self.assertEqual(step(coder), one_step(coder))
                self.assertIs(is_coder(step(coder)), True)

    def test_the_kinds_of_what_is_told(self):
        told = step((0, (0, 0)))
        self.assertIs(type(told), tuple)
        self.assertIs(type(told[1]), tuple)


class TestWordsOf(unittest.TestCase):
    def test_ordinary_words(self):
        self.assertEqual(words_of((0, (0, 0, 0)), 5), [(0, 1), (1, 1), (2, 1), (0, 2), (2, 2)])
        self.assertEqual(words_of((1, (3, 1)), 3), [(1, 2), (1, 3), (0, 4)])

    def test_none(self):
        self.assertEqual(words_of((0, (0,)), 0), [])
        self.assertEqual(words_of((3, (FAR,) * 12), 0), [])

    def test_one_place(self):
        self.assertEqual(words_of((0, (0,)), 4), [(0, 1), (0, 2), (0, 3), (0, 4)])
        self.assertEqual(words_of((0, (FAR,)), 2), [(0, FAR + 1), (0, FAR + 2)])

    def test_two_thousand_and_one_more(self):
        for coder in [(0, (0,)), (0, (0,) * 12), late_coder(12), (4, (FAR, 0, 3, FAR - 1, 7))]:
            words = words_of(coder, 2000)
            self.assertEqual(len(words), 2000)
            self.assertEqual(words_of(coder, 1999), words[:-1])
            with self.assertRaises(NoCount):
                words_of(coder, 2001)
        self.assertEqual(words_of((0, (0,)), 2000)[-1], (0, 2000))

    def test_they_are_the_words_of_the_steps(self):
        chance = random.Random(1)
        for p in range(1, 13):
            for most in (0, 3, p, FAR):
                start = coder = chance_coder(chance, p, most)
                for word in words_of(start, 300):
                    self.assertEqual(word, (coder[0], coder[1][coder[0]] + 1))
                    coder = one_step(coder)
                self.assertEqual(behind(start, 300), coder)

    def test_the_kinds_of_what_is_told(self):
        told = words_of((0, (0, 0)), 3)
        self.assertIs(type(told), list)
        self.assertEqual([type(word) for word in told], [tuple] * 3)

    def test_the_list_is_the_askers_own(self):
        coder = (0, (0, 0))
        first = words_of(coder, 2)
        first.append("x")
        first[0] = None
        self.assertEqual(words_of(coder, 2), [(0, 1), (1, 1)])
        self.assertIsNot(words_of(coder, 0), words_of(coder, 0))
        self.assertEqual(coder, (0, (0, 0)))


class TestBehind(unittest.TestCase):
    def test_ordinary_steps(self):
        self.assertEqual(behind((0, (0, 0, 0)), 1), (1, (1, 0, 0)))
        self.assertEqual(behind((0, (0, 0, 0)), 4), (2, (2, 1, 1)))
        self.assertEqual(behind((0, (0, 0)), 3), (0, (2, 1)))

    def test_no_steps(self):
        for coder in [(0, (0,)), (1, (0, 0)), (11, tuple(range(12))), (2, (FAR, 0, FAR - 7))]:
            self.assertEqual(behind(coder, 0), coder)

    def test_all_small_coders_step_by_step(self):
        for p in range(1, 4):
            for start in small_coders(p, p):
                coder = start
                for many in range(4 * p * p):
                    self.assertEqual(behind(start, many), coder, (start, many))
                    coder = one_step(coder)

    def test_each_residue_of_four_places_behind_the_latest_begin(self):
        for start in small_coders(4, 3):
            for many in (9, 10, 11, 25, 26, 27, 40, 42, 43, 58, 59):
                self.assertEqual(behind(start, many), many_steps(start, many), (start, many))

    def test_far_steps_one_by_one(self):
        chance = random.Random(2)
        for p in range(1, 13):
            for most in (0, 2, 2 * p, FAR):
                start = chance_coder(chance, p, most)
                coder, taken = start, 0
                for many in sorted(chance.sample(range(3000), 40)):
                    coder, taken = many_steps(coder, many - taken), many
                    self.assertEqual(behind(start, many), coder, (start, many))

    def test_the_latest_one_by_one(self):
        for p in range(1, 13):
            start = coder = late_coder(p)
            for many in range((p - 1) ** 2 + 2 * p * p + 3):
                self.assertEqual(behind(start, many), coder, (p, many))
                coder = one_step(coder)

    def test_far_steps_in_pieces(self):
        chance = random.Random(3)
        for p in range(1, 13):
            for coder in [late_coder(p), chance_coder(chance, p, 5), chance_coder(chance, p, FAR)]:
                for _ in range(20):
                    some, more = chance.randint(0, 10 ** 18), chance.randint(0, 300)
                    some = min(some, 10 ** 18 - more)
                    due = behind(coder, some + more)
                    self.assertEqual(behind(behind(coder, some), more), due)
                    self.assertEqual(behind(behind(coder, more), some), due)
                    self.assertEqual(many_steps(behind(coder, some), more), due)

    def test_behind_whole_rounds(self):
        chance = random.Random(4)
        for p in range(1, 13):
            for start in [late_coder(p), chance_coder(chance, p, FAR)]:
                late = (p - 1) ** 2 + 1
                place, lengths = many_steps(start, late)
                for rounds in (0, 1, 2, 7, (10 ** 18 - late) // (p * p)):
                    due = place, tuple(length + rounds * p for length in lengths)
                    self.assertEqual(behind(start, late + rounds * p * p), due, (start, rounds))

    def test_as_many_steps_as_may_be_and_one_more(self):
        self.assertEqual(behind((0, (0,)), 10 ** 18), (0, (10 ** 18,)))
        self.assertEqual(behind((0, (FAR,)), 10 ** 18), (0, (FAR + 10 ** 18,)))
        for coder in [(0, (0,)), (0, (0,) * 12), late_coder(12), (1, (FAR, 0))]:
            self.assertEqual(behind(coder, 10 ** 18), one_step(behind(coder, 10 ** 18 - 1)))
            self.assertEqual(sum(behind(coder, 10 ** 18)[1]), sum(coder[1]) + 10 ** 18)
            with self.assertRaises(NoCount):
                behind(coder, 10 ** 18 + 1)

    def test_behind_the_latest_begin_all_are_in_their_round(self):
        for p in range(1, 5):
            for coder in small_coders(p, p - 1):
                self.assertIs(comes_back(behind(coder, (p - 1) ** 2 + 1)), True, coder)

    def test_lengths_far_apart(self):
        coder = (0, (FAR, 0, FAR - 1, 1, 10 ** 15))
        for many in (1, 16, 17, 18, 1000, 2025):
            self.assertEqual(behind(coder, many), many_steps(coder, many))

    def test_only_what_is_left_of_a_round_counts(self):
        for p in range(1, 13):
            coder = late_coder(p)
            longer = coder[0], tuple(length + p * FAR for length in coder[1])
            place, lengths = behind(coder, 10 ** 18)
            due = place, tuple(length + p * FAR for length in lengths)
            self.assertEqual(behind(longer, 10 ** 18), due)

    def test_the_kinds_of_what_is_told(self):
        for many in (0, 1, 10 ** 18):
            told = behind((0, (0, 0)), many)
            self.assertIs(type(told), tuple)
            self.assertIs(type(told[1]), tuple)
            self.assertEqual([type(told[0]), *map(type, told[1])], [int] * 3)

    def test_what_is_told_may_be_handed_in_again(self):
        coder = (0, (FAR, 0, 5))
        for _ in range(5):
            coder = behind(coder, 10 ** 18)
        self.assertIs(is_coder(coder), True)
        self.assertEqual(sum(coder[1]), FAR + 5 + 5 * 10 ** 18)


def longest_known(known, endless, at):
    found = [len(word) for word in known if endless.startswith(word, at)]
    return max(found, default=0)


class TestCoderOn(unittest.TestCase):
    def test_ordinary_loops(self):
        self.assertEqual(coder_on("abc", ("a", "ab", "c")), (0, (2, 0, 1)))
        self.assertEqual(coder_on("ab", ("a", "ab", "aba", "b")), (0, (3, 1)))
        self.assertEqual(coder_on("ba", ("a", "ab", "aba", "b")), (0, (1, 3)))

    def test_nothing_known(self):
        self.assertEqual(coder_on("a", ()), (0, (0,)))
        self.assertEqual(coder_on("abc", ()), (0, (0, 0, 0)))
        self.assertEqual(coder_on("abcdefghijkl", ()), (0, (0,) * 12))

    def test_words_that_are_not_of_the_loop(self):
        self.assertEqual(coder_on("abc", ("a", "ac", "aca", "b", "ba", "x")), (0, (1, 1, 0)))
        self.assertEqual(coder_on("abc", ("b", "bc", "bca", "bcab", "bcabb")), (0, (0, 4, 0)))
        self.assertEqual(coder_on("ab", ("x", "xa", "xab")), (0, (0, 0)))

    def test_words_longer_than_the_loop(self):
        chain = tuple("a" * size for size in range(1, 401))
        self.assertEqual(coder_on("a", chain), (0, (400,)))
        self.assertEqual(coder_on("ab", chain), (0, (1, 0)))
        for loop in ("ab", "abcde", "abcdefghijkl"):
            for at in range(len(loop)):
                endless = loop[at:] + loop * 400
                words = tuple(endless[:size] for size in range(1, 401))
                due = tuple(400 if place == at else 0 for place in range(len(loop)))
                self.assertEqual(coder_on(loop, words), (0, due))

    def test_all_that_may_be_known_of_some_texts(self):
        chance = random.Random(5)
        for loop in ("a", "ab", "ba", "abc", "cabd", "abcdefghijkl"):
            endless = loop * 60
            for _ in range(20):
                text = "".join(chance.choice(["ab", "ba", "abc", loop, loop]) for _ in range(30))
                known = known_behind((), text)
                due = tuple(longest_known(known, endless, at) for at in range(len(loop)))
                self.assertEqual(coder_on(loop, known), (0, due), (loop, text))

    def test_more_than_four_hundred_words(self):
        known = ()
        for _ in range(700):
            known = known_behind(known, "abc" * 600)
            if len(known) > 450:
                break
        self.assertGreater(len(known), 400)
        due = tuple(longest_known(known, "abc" * 300, at) for at in range(3))
        self.assertEqual(coder_on("abc", known), (0, due))

    def test_a_learner_learns_what_the_steps_tell(self):
        knowns = [(), ("a",), ("a", "ab", "b"), ("a", "ac", "b", "ba", "bc", "bca"), ("b", "bc", "bca", "bcab")]
        for loop in ("a", "ab", "abc", "cab", "badc", "abcdefghijkl"):
            for known in knowns:
                text = loop * (2000 // len(loop))
                new, _ = cut(known, text)
                told = words_of(coder_on(loop, known), len(new))
                self.assertEqual([(loop * 200)[at:at + size] for at, size in told], new, (loop, known))

    def test_the_same_of_all_small_ones(self):
        words = ["a", "aa", "ab", "aba", "b", "ba", "bab", "bb"]
        for size in range(5):
            for known in itertools.combinations(words, size):
                if all(len(word) == 1 or word[:-1] in known for word in known):
                    for loop in ("ab", "ba", "a", "b", "bac"):
                        new, _ = cut(known, loop * 60)
                        told = words_of(coder_on(loop, known), len(new))
                        self.assertEqual([(loop * 60)[at:at + many] for at, many in told], new)

    def test_the_kinds_of_what_is_told(self):
        told = coder_on("ab", ("a",))
        self.assertIs(type(told), tuple)
        self.assertIs(type(told[1]), tuple)
        self.assertIs(is_coder(told), True)


class TestRefusals(unittest.TestCase):
    def test_no_coder(self):
        for thing in NOT_CODERS + OTHERS:
            with self.assertRaises(NoCoder):
                step(thing)
            for told in (behind, words_of):
                for many in (0, 1, 100):
                    with self.assertRaises(NoCoder):
                        told(thing, many)

    def test_no_count(self):
        for many in NOT_NUMBERS + [-1, -10 ** 36, 10 ** 18 + 1, 10 ** 36]:
            for told in (behind, words_of):
                for coder in [(0, (0,)), (1, (0, FAR)), (0, (0,) * 12)]:
                    with self.assertRaises(NoCount):
                        told(coder, many)

    def test_no_coder_goes_first(self):
        for many in NOT_NUMBERS + [-1, 10 ** 18 + 1]:
            for told in (behind, words_of):
                with self.assertRaises(NoCoder):
                    told((0, ()), many)

    def test_no_loop(self):
        for loop in NOT_PLAIN + OTHERS + ["", "abcdefghijklm", "ABC"]:
            if loop != "a":
                with self.assertRaises(NoLoop):
                    coder_on(loop, ())
                with self.assertRaises(NoLoop):
                    coder_on(loop, ("b", "a"))

    def test_no_known(self):
        for known in [("b", "a"), ("ab",), ["a"], [], None, "a", ("",), ("a", "a"), ("a", 1), ("A",), True]:
            for loop in ("a", "ab", "abcdefghijkl"):
                with self.assertRaises(NoKnown):
                    coder_on(loop, known)

    def test_what_is_refused_changes_nothing(self):
        thing = [0, [0, 0]]
        with self.assertRaises(NoCoder):
            step(thing)
        self.assertEqual(thing, [0, [0, 0]])


if __name__ == "__main__":
    unittest.main()
