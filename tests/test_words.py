import itertools
import random
import unittest

from looplearn.errors import NoKnown, NoPairs, NoText
from looplearn.words import cut, is_known, known_behind, pairs, read_pairs
from things import OTHERS, STRANGE_LETTERS

LETTERS = "abcdefghijklmnopqrstuvwxyz"

NOT_KNOWN = [
    ("b", "a"), ("a", "a"), ("ab",), ("a", "abc"), ("a", "ab", "aa"), ("b", "ab"), ("b", "ba", "bb", "a"),
    ("",), ("", "a"), ("a", ""), ("A",), ("a", "aB"), ("a", "b "), ("a", "b\n"), ("a", 1), ("a", True),
    ("a", None), ("a", b"b"), ("a", ("b",)), ("a", ["b"]), ["a"], [], "a", "", None, {"a": 1}, {"a"},
]


def texts_to(letters, most):
    """All texts of these letters, none to so many of them."""
    found = []
    for size in range(most + 1):
        found.extend("".join(row) for row in itertools.product(letters, repeat=size))
    return found


def all_known(letters, most):
    """All that may be known of words of at most so many letters."""
    words = [word for word in texts_to(letters, most) if word]
    found = []
    for size in range(len(words) + 1):
        for row in itertools.combinations(sorted(words), size):
            if all(len(word) == 1 or word[:-1] in row for word in row):
                found.append(row)
    return found


def cut_by_the_words(known, text):
    """Read a text as the document words it, trying every known word."""
    words, new = set(known) | {""}, []
    while True:
        taken = max((word for word in words if text.startswith(word)), key=len)
        if len(taken) == len(text):
            return new, text
        new.append(text[:len(taken) + 1])
        words.add(new[-1])
        text = text[len(taken) + 1:]


def chance_text(chance, letters, size):
    return "".join(chance.choice(letters) for _ in range(size))


def chance_known(chance, letters, many):
    words = {""}
    while len(words) <= many:
        words.add(chance.choice(sorted(words)) + chance.choice(letters))
    return tuple(sorted(words - {""}))


class TestIsKnown(unittest.TestCase):
    def test_what_is_known(self):
        for known in [(), ("a",), ("z",), ("a", "b"), ("a", "aa"), ("a", "ab", "b"), ("a", "aa", "aaa"),
                      ("a", "ab", "abc", "b", "z", "za"), tuple(LETTERS)]:
            self.assertIs(is_known(known), True, known)

    def test_what_is_none(self):
        for thing in NOT_KNOWN:
            self.assertIs(is_known(thing), False, thing)

    def test_it_is_told_of_anything(self):
        for thing in OTHERS:
            self.assertIs(is_known(thing), False, thing)

    def test_strange_letters_are_none(self):
        for letter in STRANGE_LETTERS:
            self.assertIs(is_known((letter,)), False, ascii(letter))
            self.assertIs(is_known(("a", "a" + letter)), False, ascii(letter))

    def test_every_sign_of_one_byte(self):
        for number in range(256):
            self.assertIs(is_known((chr(number),)), chr(number) in LETTERS, number)

    def test_four_hundred_words_and_more(self):
        for many in (400, 401, 2500):
            chain = tuple("a" * size for size in range(1, many + 1))
            self.assertIs(is_known(chain), True)
            self.assertIs(is_known(chain[:200] + chain[201:]), False)

    def test_all_small_ones(self):
        words = [word for word in texts_to("ab", 2) if word]
        good = all_known("ab", 2)
        self.assertEqual(len(good), 25)
        for size in range(4):
            for row in itertools.product(words, repeat=size):
                self.assertIs(is_known(row), row in good, row)


class TestCut(unittest.TestCase):
    def test_ordinary_texts(self):
        self.assertEqual(cut((), "abababab"), (["a", "b", "ab", "aba"], "b"))
        self.assertEqual(cut((), "aaaaaa"), (["a", "aa", "aaa"], ""))
        self.assertEqual(cut((), "aaaaaaaa"), (["a", "aa", "aaa"], "aa"))
        self.assertEqual(cut(("a", "ab", "b"), "abcabcab"), (["abc", "abca"], "b"))
        self.assertEqual(cut(("a", "aa"), "baab"), (["b", "aab"], ""))

    def test_no_letters(self):
        self.assertEqual(cut((), ""), ([], ""))
        self.assertEqual(cut(("a",), ""), ([], ""))

    def test_one_letter(self):
        self.assertEqual(cut((), "q"), (["q"], ""))
        self.assertEqual(cut(("q",), "q"), ([], "q"))
        self.assertEqual(cut(("p",), "q"), (["q"], ""))

    def test_the_rest_is_the_longest_known_word(self):
        self.assertEqual(cut(("a", "ab", "abc"), "abc"), ([], "abc"))
        self.assertEqual(cut(("a", "ab", "abc"), "ab"), ([], "ab"))

    def test_a_word_is_known_from_when_it_is_learnt(self):
        self.assertEqual(cut((), "aab"), (["a", "ab"], ""))
        self.assertEqual(cut((), "aabab"), (["a", "ab"], "ab"))

    def test_all_small_texts(self):
        for known in all_known("ab", 2):
            for text in texts_to("ab", 7):
                self.assertEqual(cut(known, text), cut_by_the_words(known, text), (known, text))

    def test_long_texts(self):
        chance = random.Random(5)
        for letters in ("a", "ab", "abc", LETTERS):
            for many in (0, 7, 400):
                known = chance_known(chance, letters, many)
                text = chance_text(chance, letters, 2000)
                self.assertEqual(cut(known, text), cut_by_the_words(known, text))

    def test_two_thousand_letters_and_one_more(self):
        new, rest = cut((), "a" * 2000)
        self.assertEqual([len(word) for word in new], list(range(1, 63)))
        self.assertEqual(len(rest), 2000 - 62 * 63 // 2)
        for told in (cut, known_behind, pairs):
            told((), "ab" * 1000)
            with self.assertRaises(NoText):
                told((), "ab" * 1000 + "a")

    def test_four_hundred_known_words(self):
        chain = tuple("a" * size for size in range(1, 401))
        self.assertEqual(cut(chain, "a" * 400), ([], "a" * 400))
        self.assertEqual(cut(chain, "a" * 401), (["a" * 401], ""))
        self.assertEqual(cut(chain, "a" * 900), (["a" * 401, "a" * 402], "a" * 97))

    def test_what_is_told_may_be_handed_in_again(self):
        known = ()
        chance = random.Random(3)
        for _ in range(4):
            known = known_behind(known, chance_text(chance, "ab", 2000))
        self.assertGreater(len(known), 400)
        self.assertIs(is_known(known), True)
        self.assertEqual(cut(known, "abba" * 300), cut_by_the_words(known, "abba" * 300))

    def test_the_kinds_of_what_is_told(self):
        told = cut(("a",), "aab")
        self.assertIs(type(told), tuple)
        self.assertIs(type(told[0]), list)
        self.assertIs(type(told[1]), str)

    def test_the_list_is_the_askers_own(self):
        known = ("a",)
        first = cut(known, "aabb")
        first[0].append("x")
        self.assertEqual(cut(known, "aabb"), (["aa", "b"], "b"))
        self.assertEqual(known, ("a",))


class TestKnownBehind(unittest.TestCase):
    def test_ordinary_texts(self):
        self.assertEqual(known_behind((), "abababab"), ("a", "ab", "aba", "b"))
        self.assertEqual(known_behind(("c",), "ba"), ("a", "b", "c"))
        self.assertEqual(known_behind(("a", "aa"), "baab"), ("a", "aa", "aab", "b"))

    def test_nothing_new(self):
        self.assertEqual(known_behind((), ""), ())
        self.assertEqual(known_behind(("a", "ab"), ""), ("a", "ab"))
        self.assertEqual(known_behind(("a", "ab"), "ab"), ("a", "ab"))

    def test_it_is_a_tuple(self):
        self.assertIs(type(known_behind((), "")), tuple)
        self.assertIs(type(known_behind(("a",), "ab")), tuple)

    def test_all_small_texts(self):
        for known in all_known("ab", 2):
            for text in texts_to("ab", 6):
                behind = known_behind(known, text)
                self.assertEqual(behind, tuple(sorted(known + tuple(cut(known, text)[0]))))
                self.assertIs(is_known(behind), True)


class TestPairs(unittest.TestCase):
    def test_ordinary_texts(self):
        self.assertEqual(pairs((), "abababab"), [(0, "a"), (0, "b"), (1, "b"), (3, "a")])
        self.assertEqual(pairs(("a", "ab", "b"), "abcabcab"), [(2, "c"), (4, "a")])
        self.assertEqual(pairs(("a", "b"), "cab"), [(0, "c"), (1, "b")])
        self.assertEqual(pairs(("a", "b"), "cacb"), [(0, "c"), (1, "c")])
        self.assertEqual(pairs(("a", "b"), "ccabb"), [(0, "c"), (3, "a"), (2, "b")])

    def test_none(self):
        self.assertEqual(pairs((), ""), [])
        self.assertEqual(pairs(("a",), ""), [])
        self.assertEqual(pairs(("a",), "a"), [])

    def test_one_letter(self):
        self.assertEqual(pairs((), "q"), [(0, "q")])

    def test_the_kinds_of_what_is_told(self):
        told = pairs(("a",), "aabc")
        self.assertIs(type(told), list)
        for pair in told:
            self.assertEqual([type(part) for part in pair], [int, str])
            self.assertIs(type(pair), tuple)

    def test_the_list_is_the_askers_own(self):
        first = pairs(("a",), "ab")
        first.append((0, "x"))
        self.assertEqual(pairs(("a",), "ab"), [(1, "b")])

    def test_numbers_and_letters_make_the_words(self):
        for known in all_known("ab", 2):
            for text in texts_to("ab", 6):
                words = ["", *known, *cut(known, text)[0]]
                row = pairs(known, text)
                told = [words[number] + letter for number, letter in row]
                self.assertEqual(told, cut(known, text)[0], (known, text))


class TestReadPairs(unittest.TestCase):
    def refused_at(self, known, row):
        with self.assertRaises(NoPairs) as caught:
            read_pairs(known, row)
        return caught.exception.at

    def test_ordinary_pairs(self):
        self.assertEqual(read_pairs((), [(0, "a"), (0, "b"), (1, "b"), (3, "a")]), "abababa")
        self.assertEqual(read_pairs(("a", "ab", "b"), [(2, "c"), (4, "a")]), "abcabca")
        self.assertEqual(read_pairs(("a", "b"), [(2, "a"), (3, "a")]), "babaa")

    def test_no_pairs_at_all(self):
        self.assertEqual(read_pairs((), []), "")
        self.assertEqual(read_pairs(("a",), []), "")

    def test_they_are_the_text_without_its_rest(self):
        for known in all_known("ab", 2):
            for text in texts_to("ab", 6):
                rest = cut(known, text)[1]
                self.assertEqual(read_pairs(known, pairs(known, text)) + rest, text, (known, text))

    def test_long_texts(self):
        chance = random.Random(9)
        for letters in ("a", "ab", LETTERS):
            known = chance_known(chance, letters, 400)
            text = chance_text(chance, letters, 2000)
            self.assertEqual(read_pairs(known, pairs(known, text)) + cut(known, text)[1], text)

    def test_all_lists_that_are_not_refused_are_told_of_some_text(self):
        some = [(number, letter) for number in range(-1, 6) for letter in "ab"]
        for known in [(), ("a",), ("a", "ab")]:
            for row in itertools.product(some, repeat=3):
                words, bad = ["", *known], None
                for at, (number, letter) in enumerate(row):
                    if not 0 <= number < len(words) or words[number] + letter in words:
                        bad = at
                        break
                    words.append(words[number] + letter)
                if bad is None:
                    self.assertEqual(pairs(known, read_pairs(known, list(row))), list(row))
                else:
                    self.assertEqual(self.refused_at(known, list(row)), bad, (known, row))

    def test_two_thousand_pairs(self):
        row = [(number, "a") for number in range(2000)]
        self.assertEqual(read_pairs((), row), "a" * (2000 * 2001 // 2))
        self.assertEqual(self.refused_at((), row + [(0, "a")]), 2000)

    def test_a_pair_that_tells_no_new_word(self):
        self.assertEqual(self.refused_at(("a",), [(0, "a")]), 0)
        self.assertEqual(self.refused_at(("a", "ab"), [(1, "b")]), 0)
        self.assertEqual(self.refused_at((), [(0, "a"), (0, "b"), (0, "a")]), 2)
        self.assertEqual(self.refused_at((), [(0, "a"), (1, "a"), (1, "a"), (9, "a")]), 2)

    def test_a_number_of_no_word(self):
        self.assertEqual(self.refused_at((), [(1, "a")]), 0)
        self.assertEqual(self.refused_at((), [(-1, "a")]), 0)
        self.assertEqual(self.refused_at(("a",), [(1, "b"), (-1, "c")]), 1)
        self.assertEqual(self.refused_at(("a",), [(0, "b"), (2, "b"), (4, "b")]), 2)
        self.assertEqual(self.refused_at(("a",), [(10 ** 36, "b")]), 0)
        self.assertEqual(self.refused_at(("a",), [(-10 ** 36, "b")]), 0)

    def test_a_pair_refers_to_words_ahead_of_it_only(self):
        self.assertEqual(self.refused_at((), [(0, "a"), (2, "a")]), 1)
        self.assertEqual(self.refused_at((), [(2, "a"), (0, "a")]), 0)

    def test_truths_are_no_numbers(self):
        self.assertEqual(self.refused_at(("a",), [(True, "b")]), 0)
        self.assertEqual(self.refused_at((), [(0, "a"), (False, "b")]), 1)

    def test_no_letter(self):
        for thing in ["", "ab", "A", " ", "1", b"b", None, True, 0, ["b"], ("b",), *STRANGE_LETTERS]:
            self.assertEqual(self.refused_at((), [(0, "a"), (0, thing)]), 1, ascii(thing))

    def test_no_pair(self):
        for thing in [[0, "b"], (0,), (0, "b", "c"), (), "0b", "b", 0, None, True, {0: "b"}, ("b", 0),
                      ((0, "b"),), (0, "b", None), ("0", "b"), (None, "b"), ([], "b"), (b"0", "b")]:
            self.assertEqual(self.refused_at((), [(0, "a"), thing]), 1, thing)
        for thing in OTHERS:
            if thing != (1, "a"):
                self.assertEqual(self.refused_at((), [(0, "a"), thing]), 1, thing)

    def test_the_first_of_several_is_told(self):
        self.assertEqual(self.refused_at((), [(0, "a"), None, (0, "a"), 5]), 1)
        self.assertEqual(self.refused_at((), [(0, "a"), (0, "a"), None]), 1)

    def test_no_list(self):
        for thing in [((0, "a"),), (), (0, "a"), "", "ab", None, 0, True, {}, {0: "a"}, {(0, "a")}]:
            self.assertEqual(self.refused_at((), thing), 0, thing)

    def test_nothing_that_is_handed_in_is_changed(self):
        row = [(0, "b"), (1, "b")]
        read_pairs(("a",), row)
        self.assertEqual(row, [(0, "b"), (1, "b")])
        row = [(0, "b"), None]
        self.refused_at(("a",), row)
        self.assertEqual(row, [(0, "b"), None])


class TestRefusals(unittest.TestCase):
    def test_no_known(self):
        for thing in NOT_KNOWN + OTHERS:
            for told in (cut, known_behind, pairs):
                with self.assertRaises(NoKnown):
                    told(thing, "ab")
            with self.assertRaises(NoKnown):
                read_pairs(thing, [])

    def test_no_text(self):
        things = [thing for thing in OTHERS if not isinstance(thing, tuple)]
        for thing in things + [(), ("a",), "Ab", "a b", "abA", "a" * 2001, *STRANGE_LETTERS]:
            for told in (cut, known_behind, pairs):
                with self.assertRaises(NoText):
                    told((), thing)

    def test_no_known_goes_first(self):
        for told in (cut, known_behind, pairs):
            for text in (None, "A", "a" * 2001, []):
                with self.assertRaises(NoKnown):
                    told(["a"], text)
        for row in (None, [None], ((0, "a"),)):
            with self.assertRaises(NoKnown):
                read_pairs(("b", "a"), row)


if __name__ == "__main__":
    unittest.main()
