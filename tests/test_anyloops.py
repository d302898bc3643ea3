import itertools
import random
import unittest

from goings import NOT_NUMBERS, many_steps, words_in_turn
from looplearn.anyloops import coder_then, grown_by, is_grown, lengths_on, word_on
from looplearn.coders import behind, coder_on, is_coder
from looplearn.errors import NoCount, NoKnown, NoLoop
from looplearn.far import word_at
from looplearn.words import cut
from things import OTHERS

MOST = 10 ** 18
NOT_LOOPS = ["", "abcdefghijklm", "a" * 13, "A", "Ab", "a b", "a\n", "a1", ("a",), ["a"], b"a", None, True, 1]
NOT_KNOWN = [None, [], ["a"], "a", {"a"}, {"a": 1}, ("ab",), ("b", "a"), ("a", "a"), ("A",), ("",), (1,), 0, True]
NOT_COUNTS = NOT_NUMBERS + [0, -1, MOST + 1, 10 ** 36, -10 ** 36]


def loops_to(letters, most):
    """All loops of these letters, of at most so many of them."""
    found = []
    for size in range(1, most + 1):
        found.extend("".join(row) for row in itertools.product(letters, repeat=size))
    return found


def with_beginnings(*words):
    """What is known where these words are."""
    return tuple(sorted({word[:size] for word in words for size in range(1, len(word) + 1)}))


class Reader:
    """One that reads an endless loop letter by letter, with all the words that it knows."""

    def __init__(self, loop, known):
        size = next(size for size in range(1, len(loop) + 1) if loop == (loop[:size] * len(loop))[:len(loop)]
                    and len(loop) % size == 0)
        self.root = loop[:size]
        self.known = set(known)
        self.place = 0
        self.words = []

    def longest(self, place):
        text, length = self.root[place:] + self.root * 500, 0
        while text[:length + 1] in self.known:
            length += 1
        return length

    def lengths(self):
        return tuple(self.longest(place) for place in range(len(self.root)))

    def is_grown(self):
        return all(length >= len(self.root) - 1 for length in self.lengths())

    def read(self):
        length = self.longest(self.place) + 1
        self.known.add((self.root[self.place:] + self.root * 500)[:length])
        self.words.append((self.place, length))
        self.place = (self.place + length) % len(self.root)

    def grow(self):
        while not self.is_grown():
            self.read()


def some_loops():
    """Loops of all kinds, each with what is known: little, much, and what doesn't stand there."""
    chance = random.Random(61)
    loops = loops_to("ab", 6) + loops_to("abc", 3) + ["abcdefghijkl", "aaaaaaaaaaab", "abcabcabcabc", "ababababcaba"]
    loops += ["".join(chance.choice("abc") for _ in range(size)) for size in range(4, 13)]
    for loop in loops:
        yield loop, ()
        words = []
        for _ in range(3):
            at = chance.randrange(len(loop))
            words.append((loop * 3)[at:at + chance.randint(1, 14)])
        yield loop, with_beginnings(*words)
        yield loop, with_beginnings(words[0], "zebra", loop + "a")


class TestLengthsOn(unittest.TestCase):
    def test_ordinary_loops(self):
        self.assertEqual(lengths_on("aab", ("a", "aa", "b")), (2, 1, 1))
        self.assertEqual(lengths_on("abab", ("a", "ab", "aba")), (3, 0))
        self.assertEqual(lengths_on("abc", ("a", "ab", "c")), (2, 0, 1))
        self.assertEqual(lengths_on("aaaa", ("a", "aa", "aaa", "aaaa", "aaaaa", "aaaaaa")), (6,))

    def test_where_nothing_is_known(self):
        self.assertEqual(lengths_on("aaa", ()), (0,))
        self.assertEqual(lengths_on("noon", ()), (0, 0, 0, 0))
        self.assertEqual(lengths_on("abcdefghijkl", ()), (0,) * 12)

    def test_what_does_not_stand_in_the_loop(self):
        self.assertEqual(lengths_on("aab", ("a", "ab", "abb", "c", "cc")), (1, 2, 0))
        self.assertEqual(lengths_on("ab", ("b", "bb", "z")), (0, 1))

    def test_a_loop_said_several_times_is_its_root(self):
        known = with_beginnings("abaab", "baab")
        for times in (1, 2, 3, 4):
            self.assertEqual(lengths_on("aba" * times, known), lengths_on("aba", known))

    def test_many_known_words(self):
        self.assertEqual(lengths_on("aba", with_beginnings("aba" * 133)), (399, 0, 1))
        self.assertEqual(lengths_on("a" * 12, with_beginnings("a" * 400)), (400,))

    def test_against_looking_word_by_word(self):
        for loop, known in some_loops():
            self.assertEqual(lengths_on(loop, known), Reader(loop, known).lengths(), (loop, known))

    def test_of_a_plain_loop_it_is_the_coder_there(self):
        for known in ((), ("a", "ab", "c"), with_beginnings("bcdabcd", "ca", "z")):
            self.assertEqual((0, lengths_on("abcd", known)), coder_on("abcd", known))

    def test_the_kinds_of_what_is_told(self):
        told = lengths_on("aab", ("a",))
        self.assertEqual({type(told), *map(type, told)}, {tuple, int})


class TestIsGrown(unittest.TestCase):
    def test_ordinary_loops(self):
        self.assertIs(is_grown("ab", ("a", "b")), True)
        self.assertIs(is_grown("ab", ("a",)), False)
        self.assertIs(is_grown("aab", with_beginnings("aa", "ab", "ba")), True)
        self.assertIs(is_grown("aab", with_beginnings("aab", "aba", "b")), False)

    def test_one_place_is_always_grown(self):
        for size in range(1, 13):
            self.assertIs(is_grown("a" * size, ()), True)
            self.assertIs(is_grown("a" * size, ("a",)), True)

    def test_a_loop_that_is_a_shorter_one_is_grown_where_that_is(self):
        for times in range(1, 7):
            self.assertIs(is_grown("ab" * times, ("a", "b")), True)
            self.assertIs(is_grown("ab" * times, ("b",)), False)

    def test_the_edge(self):
        loop = "aabab"
        words = [(loop * 2)[at:at + 4] for at in range(5)]
        self.assertIs(is_grown(loop, with_beginnings(*words)), True)
        for at in range(5):
            fewer = tuple(word for word in with_beginnings(*words) if word != words[at])
            self.assertIs(is_grown(loop, fewer), False)

    def test_against_looking_word_by_word(self):
        for loop, known in some_loops():
            self.assertIs(is_grown(loop, known), Reader(loop, known).is_grown(), (loop, known))


class TestGrownByAndCoderThen(unittest.TestCase):
    def test_ordinary_loops(self):
        self.assertEqual(grown_by("ab", ()), 2)
        self.assertEqual(coder_then("ab", ()), (0, (1, 1)))
        # It learns a, ab, aa, b, aab, aaba, aba, abaa, ba.
        self.assertEqual(grown_by("aab", ()), 9)
        self.assertEqual(coder_then("aab", ()), (1, (4, 4, 2)))

    def test_where_it_is_grown_at_once(self):
        self.assertEqual(grown_by("aaaa", ()), 0)
        self.assertEqual(coder_then("aaaa", ()), (0, (0,)))
        self.assertEqual(coder_then("aaaa", ("a", "aa")), (0, (2,)))
        self.assertEqual(grown_by("ababab", ("a", "b")), 0)
        self.assertEqual(coder_then("ababab", ("a", "ab", "b")), (0, (2, 1)))
        self.assertEqual(grown_by("aab", with_beginnings("aa", "ab", "ba")), 0)

    def test_against_reading_word_by_word(self):
        for loop, known in some_loops():
            reader = Reader(loop, known)
            reader.grow()
            self.assertEqual(grown_by(loop, known), len(reader.words), (loop, known))
            self.assertEqual(coder_then(loop, known), (reader.place, reader.lengths()), (loop, known))

    def test_it_is_a_coder_of_the_root_that_is_grown(self):
        for loop, known in some_loops():
            coder = coder_then(loop, known)
            self.assertIs(is_coder(coder), True)
            self.assertTrue(min(coder[1]) >= len(coder[1]) - 1)

    def test_of_a_plain_loop_it_is_the_coder_behind_so_many_steps(self):
        for loop in ("a", "ab", "abcde", "abcdefghijkl"):
            for known in ((), with_beginnings(loop[-1] + loop[0], loop * 2)):
                many = grown_by(loop, known)
                self.assertEqual(coder_then(loop, known), behind(coder_on(loop, known), many))
                if many > 0:
                    _, lengths = behind(coder_on(loop, known), many - 1)
                    self.assertLess(min(lengths), len(loop) - 1)

    def test_all_loops_of_two_letters_and_seven_places(self):
        for loop in loops_to("ab", 7)[126:]:
            reader = Reader(loop, ())
            reader.grow()
            self.assertEqual(grown_by(loop, ()), len(reader.words))
            self.assertEqual(coder_then(loop, ()), (reader.place, reader.lengths()))

    def test_the_kinds_of_what_is_told(self):
        self.assertIs(type(grown_by("aab", ())), int)
        self.assertIs(type(grown_by("aaa", ())), int)
        told = coder_then("aab", ())
        self.assertEqual([type(told), type(told[0]), type(told[1])], [tuple, int, tuple])


class TestWordOn(unittest.TestCase):
    def test_ordinary_loops(self):
        due = [(0, 1), (1, 2), (0, 2), (2, 1), (0, 3), (0, 4), (1, 3), (1, 4), (2, 2), (1, 5)]
        self.assertEqual([word_on("aab", (), number) for number in range(1, 11)], due)
        self.assertEqual(word_on("abab", ("a", "ab"), 1), (0, 3))

    def test_one_place(self):
        for loop in ("a", "aaaaaaaaaaaa"):
            for number in (1, 2, 50, MOST):
                self.assertEqual(word_on(loop, (), number), (0, number))
                self.assertEqual(word_on(loop, ("a", "aa"), number), (0, number + 2))

    def test_against_reading_word_by_word(self):
        for loop, known in some_loops():
            reader = Reader(loop, known)
            for _ in range(40):
                reader.read()
            for number in [*range(1, 10), *range(10, 41, 5)]:
                self.assertEqual(word_on(loop, known, number), reader.words[number - 1], (loop, known))

    def test_all_along_till_it_is_grown_and_behind(self):
        for loop in ("aabaabaababb", "aaaaaaaaaaab", "abcabcabcabd", "abaabaababab"):
            reader = Reader(loop, ())
            reader.grow()
            for _ in range(60):
                reader.read()
            for number, word in enumerate(reader.words, start=1):
                self.assertEqual(word_on(loop, (), number), word)

    def test_against_cutting_a_text(self):
        for loop in ("aab", "abaabb", "abcabd", "noon"):
            for known in ((), with_beginnings("ab", "b"), with_beginnings(loop, "no")):
                words, _ = cut(known, loop * (2000 // len(loop)))
                at = 0
                for number, word in enumerate(words, start=1):
                    self.assertEqual(word_on(loop, known, number), (at % len(loop), len(word)))
                    at += len(word)

    def test_a_loop_said_several_times_is_its_root(self):
        for number in (1, 2, 3, 30, MOST):
            self.assertEqual(word_on("abaaba", ("a",), number), word_on("aba", ("a",), number))
            self.assertEqual(word_on("ababab", ("a", "b"), number), word_at((0, (1, 1)), number))

    def test_far_words_go_on_from_the_coder_then(self):
        chance = random.Random(62)
        for loop, known in some_loops():
            many, coder = grown_by(loop, known), coder_then(loop, known)
            for number, word in enumerate(words_in_turn(coder, 3), start=1):
                self.assertEqual(word_on(loop, known, many + number), word)
            for number in (MOST, chance.randint(10 ** 6, MOST)):
                self.assertEqual(word_on(loop, known, number), word_at(coder, number - many))

    def test_far_words_are_behind_whole_rounds(self):
        for loop in ("aabab", "abcabcabcabd"):
            p = len(loop)
            coder = many_steps(coder_then(loop, ()), p * p)
            rounds = 10 ** 15
            for number, (place, length) in enumerate(words_in_turn(coder, p * p), start=1):
                far = grown_by(loop, ()) + p * p * (1 + rounds) + number
                self.assertEqual(word_on(loop, (), far), (place, length + p * rounds))

    def test_of_a_plain_loop_it_is_the_word_of_the_coder_there(self):
        for known in ((), with_beginnings("cdab", "da")):
            for number in (1, 2, 9, 10, 50, 10 ** 9, MOST):
                self.assertEqual(word_on("abcd", known, number), word_at(coder_on("abcd", known), number))

    def test_the_kinds_of_what_is_told(self):
        for number in (1, MOST):
            told = word_on("aab", (), number)
            self.assertEqual([type(told), type(told[0]), type(told[1])], [tuple, int, int])


class TestRefusals(unittest.TestCase):
    def asks(self, loop, known, number=1):
        return [
            lambda: lengths_on(loop, known), lambda: is_grown(loop, known), lambda: grown_by(loop, known),
            lambda: coder_then(loop, known), lambda: word_on(loop, known, number),
        ]

    def test_no_loop_goes_ahead(self):
        for loop in NOT_LOOPS + OTHERS:
            for known, number in (((), 1), (None, 1), ((), 0), (["a"], None)):
                for ask in self.asks(loop, known, number):
                    with self.assertRaises(NoLoop):
                        ask()

    def test_a_loop_that_is_not_plain_is_none_the_less_a_loop(self):
        for ask in self.asks("aa", ()) + self.asks("noon", ("n",)):
            self.assertIsNotNone(ask())

    def test_no_known_goes_ahead_of_no_count(self):
        for known in NOT_KNOWN + OTHERS:
            for loop in ("ab", "aab", "aaaa"):
                for ask in self.asks(loop, known, 0):
                    with self.assertRaises(NoKnown):
                        ask()

    def test_no_count(self):
        for number in NOT_COUNTS:
            for loop, known in (("ab", ()), ("aab", ("a",)), ("aaaa", ())):
                with self.assertRaises(NoCount):
                    word_on(loop, known, number)

    def test_nothing_that_is_handed_in_is_changed(self):
        known = ["a"]
        for ask in self.asks("aab", known):
            with self.assertRaises(NoKnown):
                ask()
        self.assertEqual(known, ["a"])


if __name__ == "__main__":
    unittest.main()
