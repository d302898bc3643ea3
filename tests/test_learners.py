import random
import unittest

from goings import NOT_NUMBERS, many_steps, words_in_turn
from looplearn.coders import coder_on
from looplearn.errors import NoCount, NoKnown, NoLoop, NoLog, NoPlace, Nothing, NoWord
from looplearn.far import word_at
from looplearn.learners import Learner, learner_of
from looplearn.words import known_behind
from things import OTHERS, STRANGE_LETTERS

MOST = 10 ** 18
NO_COUNTS = NOT_NUMBERS + [0, -1, MOST + 1, 10 ** 36, -10 ** 36]
NOT_PLAIN = ["aa", "aba", "abab", "noon", "a" * 12, "abcdefghijka"]
NOT_LOOPS = NOT_PLAIN + ["", "abcdefghijklm", "A", "a b", "a\n", ("a",), ["a"], None, True, 1, b"a"]
NOT_KNOWN = [None, [], ["a"], "a", {"a"}, {"a": 1}, ("ab",), ("b", "a"), ("a", "a"), ("A",), ("",), (1,), 0, True]
NOT_PLACES = NOT_NUMBERS + [-1, 3, 4, 10 ** 36, -10 ** 36]

# What can't be done to one that reads "abc" and knows "a", "ab" and "z".
NOT_DONE = [
    ("learn", 0), ("learn", -1), ("learn", MOST + 1), ("learn", True), ("learn", "1"), ("learn", None), ("learn", ()),
    ("teach", "a"), ("teach", "ab"), ("teach", "z"), ("teach", "za"), ("teach", "bc"), ("teach", "abcab"),
    ("teach", ""), ("teach", "ac"), ("teach", "A"), ("teach", 1), ("teach", None), ("teach", ["b"]),
    ("teach", ("b",)), ("teach", b"b"), ("learn",), ("teach",), ("learn", 1, 1), ("teach", "b", 0), ("back",),
    ("back", 1), ("Learn", 1), ("", 1), ("know", "b"), ["learn", 1], ["teach", "b"], "learn", "le", {"learn": 1},
    {"learn", 1}, None, 0, (), True, (None, 1), (1, "learn"), ("b", "teach"), (("learn", 1),), (["learn"], 1),
    ({}, {}), (True, True), b"le",
]


class Reader:
    """One that reads a loop's letters word by word, and looks for each in all that it knows."""

    def __init__(self, loop, known, first):
        self.loop = loop
        self.known = set(known)
        self.at = first
        self.words = []

    def text(self, place):
        return self.loop[place:] + self.loop * 300

    def read(self):
        text, length = self.text(self.at), 1
        while text[:length] in self.known:
            length += 1
        self.known.add(text[:length])
        self.words.append((self.at, length))
        self.at = (self.at + length) % len(self.loop)

    def teach(self, word):
        self.known.add(word)

    def coder(self):
        lengths = []
        for place in range(len(self.loop)):
            length = 0
            while self.text(place)[:length + 1] in self.known:
                length += 1
            lengths.append(length)
        return self.at, tuple(lengths)

    def to_be_taught(self, chance):
        place, lengths = self.coder()
        place = chance.randrange(len(lengths))
        return self.text(place)[:lengths[place] + 1]


def told(learner):
    """All that a Learner tells but its words."""
    return learner.coder(), learner.count(), learner.log(), len(learner)


class TestLearn(unittest.TestCase):
    def test_ordinary_learning(self):
        learner = Learner("abc", ("a", "ab", "c"))
        self.assertEqual(learner.coder(), (0, (2, 0, 1)))
        self.assertIsNone(learner.learn(1))
        self.assertEqual(learner.coder(), (0, (3, 0, 1)))
        learner.learn(2)
        self.assertEqual(learner.coder(), (2, (4, 1, 1)))
        self.assertEqual(learner.count(), 3)
        self.assertEqual([learner.word(n) for n in (1, 2, 3)], [(0, 3), (0, 4), (1, 1)])

    def test_against_reading_word_by_word(self):
        chance = random.Random(81)
        for loop in ("a", "ab", "abc", "hgfedcba", "abcdefghijkl"):
            for known in ((), (loop[0],), known_behind((), loop * 2)):
                for first in {0, len(loop) // 2, len(loop) - 1}:
                    learner, reader = Learner(loop, known, first=first), Reader(loop, known, first)
                    while len(reader.words) < 120:
                        some = chance.randint(1, 25)
                        learner.learn(some)
                        for _ in range(some):
                            reader.read()
                        self.assertEqual(learner.coder(), reader.coder())
                        self.assertEqual(learner.count(), len(reader.words))
                    for n, word in enumerate(reader.words, start=1):
                        self.assertEqual(learner.word(n), word)

    def test_as_many_words_as_may_be(self):
        learner = Learner("a", ())
        learner.learn(MOST)
        self.assertEqual(told(learner), ((0, (MOST,)), MOST, [("learn", MOST)], 1))
        self.assertEqual(learner.word(MOST), (0, MOST))
        learner.learn(MOST)
        self.assertEqual(learner.count(), 2 * MOST)
        self.assertEqual(learner.word(2 * MOST), (0, 2 * MOST))
        self.assertEqual(learner.word(MOST + 1), (0, MOST + 1))

    def test_far_words(self):
        chance = random.Random(82)
        for p in range(1, 13):
            loop = "abcdefghijkl"[:p]
            learner = Learner(loop, ("a", "ab") if p > 1 else (), first=p - 1)
            start = learner.coder()
            learner.learn(MOST)
            for n in [1, 2, MOST, MOST - 1] + [chance.randint(1, MOST) for _ in range(5)]:
                self.assertEqual(learner.word(n), word_at(start, n))
            then = learner.coder()
            learner.learn(7)
            self.assertEqual([learner.word(MOST + n) for n in range(1, 8)], words_in_turn(then, 7))
            self.assertEqual(learner.coder(), many_steps(then, 7))

    def test_no_count(self):
        learner = Learner("ab", ())
        learner.learn(3)
        ahead = told(learner)
        for n in NO_COUNTS:
            with self.assertRaises(NoCount):
                learner.learn(n)
            self.assertEqual(told(learner), ahead)

    def test_two_hundred_things(self):
        chance = random.Random(83)
        learner, reader, log = Learner("abcde", ()), Reader("abcde", (), 0), []
        for number in range(200):
            if number % 3 == 2:
                word = reader.to_be_taught(chance)
                learner.teach(word)
                reader.teach(word)
                log.append(("teach", word))
            else:
                learner.learn(1)
                reader.read()
                log.append(("learn", 1))
        self.assertEqual(told(learner), (reader.coder(), len(reader.words), log, 200))
        for n, word in enumerate(reader.words, start=1):
            self.assertEqual(learner.word(n), word)
        for _ in range(200):
            learner.back()
        self.assertEqual(told(learner), ((0, (0,) * 5), 0, [], 0))


class TestTeach(unittest.TestCase):
    def test_ordinary_teaching(self):
        learner = Learner("abc", ("a", "ab", "c"))
        self.assertIsNone(learner.teach("ca"))
        self.assertEqual(learner.coder(), (0, (2, 0, 2)))
        learner.teach("b")
        self.assertEqual(learner.coder(), (0, (2, 1, 2)))
        learner.teach("abc")
        self.assertEqual(told(learner), ((0, (3, 1, 2)), 0, [("teach", "ca"), ("teach", "b"), ("teach", "abc")], 3))

    def test_it_is_not_learnt_by_reading(self):
        learner = Learner("abc", ())
        learner.teach("a")
        self.assertEqual(learner.count(), 0)
        with self.assertRaises(NoCount):
            learner.word(1)
        learner.learn(1)
        self.assertEqual(learner.word(1), (0, 2))
        self.assertEqual(learner.coder(), (2, (2, 0, 0)))

    def test_the_place_stays(self):
        learner = Learner("abcd", (), first=2)
        for word in ("a", "ab", "c", "d", "da"):
            learner.teach(word)
            self.assertEqual(learner.coder()[0], 2)
        self.assertEqual(learner.coder(), (2, (2, 0, 1, 2)))

    def test_one_place(self):
        learner = Learner("a", ())
        for length in range(1, 40):
            learner.teach("a" * length)
        self.assertEqual(learner.coder(), (0, (39,)))
        with self.assertRaises(NoWord):
            learner.teach("a" * 41)
        with self.assertRaises(NoWord):
            learner.teach("a" * 39)

    def test_long_words(self):
        learner = Learner("abc", ())
        learner.learn(13500)
        place, lengths = learner.coder()
        for at in range(3):
            word = ("abc" * 3000)[at:at + lengths[at] + 1]
            self.assertGreater(len(word), 4400)
            self.assertIs(learner.knows(word), False)
            for other in (word + word[-3], word[:-1], word[:-1] + word[-2], "c" + word[1:-1] + "z"):
                with self.assertRaises(NoWord):
                    learner.teach(other)
            learner.teach(word)
            self.assertIs(learner.knows(word), True)
        self.assertEqual(learner.coder(), (place, tuple(length + 1 for length in lengths)))

    def test_no_word(self):
        learner = Learner("abc", ("a", "ab", "z"))
        learner.teach("c")
        ahead = told(learner)
        wrong = [
            "a", "ab", "c", "z", "zz", "za", "bc", "cab", "abca", "ac", "ba", "cc", "aa", "abb", "", "d", "x", "A", "B",
            "b ", " b", "b\n", "b1", ("b",), ["b"], {"b"}, {"b": 1}, b"b", "ca ", "caa", "abcabc", "abcabcabc",
        ]
        for thing in wrong + OTHERS + STRANGE_LETTERS + NOT_NUMBERS:
            if thing not in ("abc", "b", "ca"):
                with self.assertRaises(NoWord):
                    learner.teach(thing)
                self.assertEqual(told(learner), ahead)
        for word in ("abc", "b", "ca"):
            learner.teach(word)

    def test_against_knowing_it_at_first(self):
        learner = Learner("abcd", ("a",), first=1)
        for word in ("b", "bc", "bcd", "d", "ab"):
            learner.teach(word)
        other = Learner("abcd", ("a", "ab", "b", "bc", "bcd", "d"), first=1)
        learner.learn(50)
        other.learn(50)
        self.assertEqual(learner, other)
        for n in range(1, 51):
            self.assertEqual(learner.word(n), other.word(n))


class TestBack(unittest.TestCase):
    def test_ordinary_deeds(self):
        learner = Learner("abc", ())
        learner.learn(4)
        learner.teach("ca")
        learner.learn(2)
        self.assertIsNone(learner.back())
        self.assertEqual(told(learner), ((2, (2, 1, 2)), 4, [("learn", 4), ("teach", "ca")], 2))
        learner.back()
        self.assertEqual(told(learner), ((2, (2, 1, 1)), 4, [("learn", 4)], 1))

    def test_each_deed_is_taken_back(self):
        chance = random.Random(84)
        for loop in ("a", "abc", "abcdefghijkl"):
            learner, reader = Learner(loop, (), first=len(loop) - 1), Reader(loop, (), len(loop) - 1)
            tellings = [told(learner)]
            for _ in range(60):
                if chance.random() < 0.5:
                    word = reader.to_be_taught(chance)
                    learner.teach(word)
                    reader.teach(word)
                else:
                    some = chance.randint(1, 5)
                    learner.learn(some)
                    for _ in range(some):
                        reader.read()
                tellings.append(told(learner))
            while len(tellings) > 1:
                self.assertEqual(told(learner), tellings.pop())
                learner.back()
            self.assertEqual(told(learner), tellings.pop())

    def test_nothing(self):
        learner = Learner("abc", ("a",), first=1)
        for _ in range(2):
            with self.assertRaises(Nothing):
                learner.back()
            self.assertEqual(told(learner), ((1, (1, 0, 0)), 0, [], 0))
        learner.learn(5)
        learner.teach(("abc" * 9)[1:1 + learner.coder()[1][1] + 1])
        learner.back()
        learner.back()
        for _ in range(2):
            with self.assertRaises(Nothing):
                learner.back()
            self.assertEqual(told(learner), ((1, (1, 0, 0)), 0, [], 0))

    def test_a_deed_behind_one_that_was_taken_back(self):
        learner = Learner("abc", ())
        learner.learn(10)
        learner.back()
        learner.teach("a")
        learner.learn(3)
        reader = Reader("abc", ("a",), 0)
        for _ in range(3):
            reader.read()
        self.assertEqual(told(learner), (reader.coder(), 3, [("teach", "a"), ("learn", 3)], 2))
        self.assertEqual([learner.word(n) for n in (1, 2, 3)], reader.words)
        with self.assertRaises(NoCount):
            learner.word(4)

    def test_what_was_refused_is_not_taken_back(self):
        learner = Learner("abc", ())
        learner.learn(2)
        for deed in (lambda: learner.learn(0), lambda: learner.teach("z")):
            with self.assertRaises(ValueError):
                deed()
        learner.back()
        self.assertEqual(told(learner), ((0, (0, 0, 0)), 0, [], 0))

    def test_a_far_deed(self):
        learner = Learner("abcde", ())
        learner.learn(12)
        ahead = told(learner)
        learner.learn(MOST)
        learner.back()
        self.assertEqual(told(learner), ahead)
        self.assertEqual(learner.word(12), words_in_turn((0, (0,) * 5), 12)[-1])


class TestCoder(unittest.TestCase):
    def test_at_first(self):
        for loop, known in (("a", ()), ("abc", ("a", "ab", "c")), ("ba", ("a", "ab", "aba", "z"))):
            self.assertEqual(Learner(loop, known).coder(), coder_on(loop, known))
            for first in range(len(loop)):
                self.assertEqual(Learner(loop, known, first=first).coder(), (first, coder_on(loop, known)[1]))

    def test_many_known_words(self):
        known = tuple("a" * size for size in range(1, 401))
        self.assertEqual(Learner("a", known).coder(), (0, (400,)))

    def test_the_kinds_of_what_is_told(self):
        told_coder = Learner("ab", ()).coder()
        self.assertEqual([type(told_coder), type(told_coder[0]), type(told_coder[1])], [tuple, int, tuple])


class TestCountAndWord(unittest.TestCase):
    def test_words_with_teaching_between(self):
        chance = random.Random(85)
        for loop in ("ab", "abcd", "lkjihgfedcba"):
            learner, reader = Learner(loop, (), first=1), Reader(loop, (), 1)
            for _ in range(20):
                for _ in range(chance.randint(0, 3)):
                    word = reader.to_be_taught(chance)
                    learner.teach(word)
                    reader.teach(word)
                some = chance.randint(1, 9)
                learner.learn(some)
                for _ in range(some):
                    reader.read()
                for n, word in enumerate(reader.words, start=1):
                    self.assertEqual(learner.word(n), word)
                self.assertEqual(learner.count(), len(reader.words))

    def test_the_last_word_and_one_more(self):
        learner = Learner("abc", ())
        with self.assertRaises(NoCount):
            learner.word(1)
        for n in range(1, 30):
            learner.learn(1)
            self.assertEqual(learner.word(n), words_in_turn((0, (0, 0, 0)), 30)[n - 1])
            with self.assertRaises(NoCount):
                learner.word(n + 1)
        learner.teach(("abc" * 30)[:learner.coder()[1][0] + 1])
        with self.assertRaises(NoCount):
            learner.word(30)

    def test_no_count(self):
        learner = Learner("abc", ())
        learner.learn(5)
        for n in NOT_NUMBERS + [0, -1, 6, MOST, MOST + 1, 10 ** 36, -10 ** 36]:
            with self.assertRaises(NoCount):
                learner.word(n)

    def test_the_kinds_of_what_is_told(self):
        learner = Learner("abc", ())
        self.assertIs(type(learner.count()), int)
        learner.learn(5)
        self.assertIs(type(learner.count()), int)
        self.assertEqual([type(thing) for thing in (learner.word(3), *learner.word(3))], [tuple, int, int])


class TestKnows(unittest.TestCase):
    def test_ordinary_words(self):
        learner = Learner("abc", ("a", "ab", "c"))
        for word in ("a", "ab", "c"):
            self.assertIs(learner.knows(word), True)
        for word in ("abc", "b", "ca", "ac", "z", "aa"):
            self.assertIs(learner.knows(word), False)
        learner.learn(3)
        learner.teach("bc")
        for word in ("abc", "abca", "b", "bc"):
            self.assertIs(learner.knows(word), True)
        for word in ("abcab", "bca", "ca", "bb", "abcc", "acb"):
            self.assertIs(learner.knows(word), False)
        learner.back()
        self.assertIs(learner.knows("bc"), False)
        learner.back()
        self.assertIs(learner.knows("abc"), False)
        self.assertIs(learner.knows("ab"), True)

    def test_known_words_that_do_not_stand_in_the_loop(self):
        learner = Learner("ab", ("a", "aa", "b", "z", "zz"))
        for word in ("aa", "z", "zz"):
            self.assertIs(learner.knows(word), False)
        self.assertIs(learner.knows("a"), True)

    def test_each_word_against_reading(self):
        learner, reader = Learner("abc", (), first=2), Reader("abc", (), 2)
        learner.learn(40)
        for _ in range(40):
            reader.read()
        for place in range(3):
            for length in range(1, 60):
                word = reader.text(place)[:length]
                self.assertIs(learner.knows(word), word in reader.known)

    def test_it_is_told_of_anything(self):
        learner = Learner("a", ("a", "aa"))
        for thing in OTHERS + NOT_NUMBERS + STRANGE_LETTERS + ["", "a ", " a", "a\n", ("a",), ["a"], b"a", learner]:
            self.assertIs(learner.knows(thing), False, thing)
        self.assertIs(learner.knows("a" * 5000), False)
        learner.learn(MOST)
        self.assertIs(learner.knows("a" * 5000), True)
        self.assertIs(learner.knows("a" * 4999 + "b"), False)


class TestLogAndLength(unittest.TestCase):
    def test_ordinary_deeds(self):
        learner = Learner("abc", ())
        self.assertEqual((learner.log(), len(learner)), ([], 0))
        learner.learn(3)
        learner.learn(3)
        self.assertEqual((learner.log(), len(learner)), ([("learn", 3), ("learn", 3)], 2))
        learner.back()
        learner.teach("ca")
        self.assertEqual((learner.log(), len(learner)), ([("learn", 3), ("teach", "ca")], 2))

    def test_asking_stands_in_no_log(self):
        learner = Learner("abc", ())
        learner.learn(3)
        for ask in (learner.coder, learner.count, learner.log):
            ask()
        learner.word(1)
        learner.knows("a")
        self.assertEqual(learner, learner)
        self.assertEqual(learner.log(), [("learn", 3)])

    def test_the_list_is_the_askers_own(self):
        learner = Learner("abc", ())
        learner.learn(3)
        learner.teach("ca")
        row = learner.log()
        self.assertIsNot(row, learner.log())
        row.clear()
        row.append(("teach", "zz"))
        self.assertEqual(learner.log(), [("learn", 3), ("teach", "ca")])
        self.assertEqual(len(learner), 2)
        kept = learner.log()
        learner.back()
        learner.learn(9)
        self.assertEqual(kept, [("learn", 3), ("teach", "ca")])

    def test_the_kinds_of_what_is_told(self):
        learner = Learner("abc", ())
        learner.learn(3)
        learner.teach("ca")
        self.assertEqual([type(thing) for thing in (learner.log(), *learner.log())], [list, tuple, tuple])
        self.assertEqual([type(thing) for thing in learner.log()[0]], [str, int])
        self.assertIs(type(len(learner)), int)


class TestEqual(unittest.TestCase):
    def test_equal_by_unlike_deeds(self):
        one, other = Learner("abc", ()), Learner("abc", ())
        self.assertIs(one == other, True)
        self.assertIs(one != other, False)
        one.learn(7)
        self.assertIs(one == other, False)
        other.learn(3)
        other.learn(4)
        self.assertIs(one == other, True)
        one.teach(("abc" * 9)[2:2 + one.coder()[1][2] + 1])
        self.assertIs(one != other, True)
        one.back()
        self.assertIs(one == other, True)

    def test_what_they_know_beside_the_loop_does_not_matter(self):
        self.assertEqual(Learner("ab", ("a", "aa", "z")), Learner("ab", ("a",)))

    def test_unlike_loops_coders_and_counts(self):
        one = Learner("abc", ("a",), first=1)
        self.assertEqual(one, Learner("abc", ("a",), first=1))
        for other in (Learner("abd", ("a",), first=1), Learner("abc", ("a",)), Learner("abc", ("b",), first=1),
                      Learner("abc", ("a", "ab"), first=1), Learner("bca", ("a",), first=1)):
            self.assertIs(one == other, False)
            self.assertIs(one != other, True)

    def test_one_coder_by_reading_and_by_teaching_is_not_equal(self):
        # It reads "a", or begins behind it and is taught it.
        one, other = Learner("ab", ()), Learner("ab", (), first=1)
        one.learn(1)
        other.teach("a")
        self.assertEqual(one.coder(), other.coder())
        self.assertIs(one == other, False)

    def test_unlike_loops_with_one_coder(self):
        one, other = Learner("abc", ()), Learner("abd", ())
        one.learn(1)
        other.learn(1)
        self.assertEqual(one.coder(), other.coder())
        self.assertIs(one == other, False)

    def test_other_things(self):
        learner = Learner("a", ())
        for thing in OTHERS + NOT_NUMBERS + ["a", (0, (0,)), [], ("a", (0, (0,)), 0), Learner]:
            self.assertIs(learner == thing, False)
            self.assertIs(thing == learner, False)
            self.assertIs(learner != thing, True)
        self.assertIs(learner == learner, True)


class TestLearnerOf(unittest.TestCase):
    def test_ordinary_logs(self):
        learner = learner_of("abc", ("a",), [])
        self.assertEqual(told(learner), ((0, (1, 0, 0)), 0, [], 0))
        learner = learner_of("abc", (), [("teach", "c"), ("teach", "ca"), ("learn", 2)], first=2)
        self.assertEqual(told(learner), told(learner_of("abc", (), learner.log(), first=2)))
        self.assertEqual(learner.log(), [("teach", "c"), ("teach", "ca"), ("learn", 2)])
        self.assertEqual([learner.word(1), learner.word(2)], [(2, 3), (2, 4)])

    def test_a_learner_and_one_to_which_what_stands_in_its_log_was_done(self):
        chance = random.Random(86)
        for loop in ("a", "ab", "abcde", "abcdefghijkl"):
            first = chance.randrange(len(loop))
            learner, reader = Learner(loop, (), first=first), Reader(loop, (), first)
            for _ in range(50):
                if chance.random() < 0.5:
                    word = reader.to_be_taught(chance)
                    learner.teach(word)
                    reader.teach(word)
                else:
                    learner.learn(3)
                    for _ in range(3):
                        reader.read()
            other = learner_of(loop, (), learner.log(), first=first)
            self.assertIsInstance(other, Learner)
            self.assertEqual(other, learner)
            self.assertEqual(told(other), told(learner))
            for n, word in enumerate(reader.words, start=1):
                self.assertEqual(other.word(n), word)
            while len(learner) > 0:
                other.back()
                learner.back()
                self.assertEqual(told(other), told(learner))

    def test_it_is_a_learner_of_its_own(self):
        log = [("learn", 3)]
        one, other = learner_of("abc", (), log), learner_of("abc", (), log)
        one.learn(1)
        log.append(("learn", 5))
        log[0] = ("learn", 9)
        self.assertEqual(told(other), told(learner_of("abc", (), [("learn", 3)])))
        self.assertEqual(one.count(), 4)

    def test_the_log_is_not_changed(self):
        log = [("learn", 3), ("teach", "z")]
        with self.assertRaises(NoLog):
            learner_of("abc", (), log)
        self.assertEqual(log, [("learn", 3), ("teach", "z")])

    def test_two_hundred_things(self):
        learner = learner_of("abcd", (), [("learn", MOST)] * 200)
        self.assertEqual((learner.count(), len(learner)), (200 * MOST, 200))
        learner.back()
        self.assertEqual(learner.count(), 199 * MOST)
        coder = learner_of("abcd", (), [("learn", MOST)] * 198).coder()
        self.assertEqual(learner.word(199 * MOST), word_at(coder, MOST))

    def test_no_log_of_what_is_none(self):
        for thing in OTHERS + NOT_NUMBERS + [("learn", 1), (("learn", 1),), "learn", {("learn", 1): 1}]:
            if thing != []:
                with self.assertRaises(NoLog):
                    learner_of("abc", ("a",), thing)

    def test_no_log_of_one_with_an_entry_that_can_not_be_done(self):
        known = ("a", "ab", "z")
        for thing in NOT_DONE + OTHERS:
            for log in ([thing], [("teach", "abc"), thing], [("learn", 1), thing], [thing, ("learn", 1)]):
                with self.assertRaises(NoLog):
                    learner_of("abc", known, log)
        self.assertEqual(len(learner_of("abc", known, [("teach", "abc"), ("teach", "abca"), ("teach", "c")])), 3)

    def test_no_log_of_what_could_be_done_in_another_order_only(self):
        self.assertEqual(len(learner_of("abc", (), [("teach", "c"), ("teach", "ca")])), 2)
        logs = [
            [("teach", "ca"), ("teach", "c")], [("teach", "c"), ("teach", "c")], [("learn", 1), ("teach", "a")],
        ]
        for log in logs:
            with self.assertRaises(NoLog):
                learner_of("abc", (), log)


class TestRefusals(unittest.TestCase):
    def makers(self, loop, known, first, log):
        return lambda: Learner(loop, known, first=first), lambda: learner_of(loop, known, log, first=first)

    def test_no_loop_goes_ahead(self):
        for loop in NOT_LOOPS + OTHERS:
            for known, first, log in (((), 0, []), (None, 0, None), ((), -1, []), (["a"], True, ["x"])):
                for make in self.makers(loop, known, first, log):
                    with self.assertRaises(NoLoop):
                        make()

    def test_no_known_goes_next(self):
        for known in NOT_KNOWN + OTHERS:
            for first, log in ((0, []), (-1, []), (3, None), (True, ["x"])):
                for make in self.makers("abc", known, first, log):
                    with self.assertRaises(NoKnown):
                        make()

    def test_no_place_goes_next(self):
        for first in NOT_PLACES:
            for log in ([], None, ["x"]):
                for make in self.makers("abc", ("a",), first, log):
                    with self.assertRaises(NoPlace):
                        make()
        for p in range(1, 13):
            for make in self.makers("abcdefghijkl"[:p], (), p, []):
                with self.assertRaises(NoPlace):
                    make()

    def test_the_last_place(self):
        for p in range(1, 13):
            for make in self.makers("abcdefghijkl"[:p], (), p - 1, []):
                self.assertEqual(make().coder(), (p - 1, (0,) * p))

    def test_first_is_handed_in_by_its_name(self):
        with self.assertRaises(TypeError):
            Learner("abc", (), 1)
        with self.assertRaises(TypeError):
            learner_of("abc", (), [], 1)

    def test_what_becomes_of_what_was_handed_in(self):
        known = ("a",)
        learner = Learner("abc", known)
        learner.learn(9)
        self.assertEqual(known, ("a",))


if __name__ == "__main__":
    unittest.main()
