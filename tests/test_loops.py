import itertools
import unittest

from looplearn.errors import NoLoop
from looplearn.loops import alike_for, is_loop, is_plain, root, turned
from things import OTHERS, STRANGE_LETTERS

NOT_LOOPS = ["", "abcdefghijklm", "a" * 13, "A", "Ab", "a b", "a\n", "a1", ("a",), ["a"], b"a", None, True, 1]


def loops_to(letters, most):
    """All loops of these letters, of at most so many of them."""
    found = []
    for size in range(1, most + 1):
        found.extend("".join(row) for row in itertools.product(letters, repeat=size))
    return found


class TestIsLoop(unittest.TestCase):
    def test_loops(self):
        for loop in ["a", "z", "ab", "aa", "abab", "abcdefghijkl", "a" * 12, "zzzyyyxxx"]:
            self.assertIs(is_loop(loop), True, loop)

    def test_what_is_none(self):
        for thing in NOT_LOOPS + OTHERS:
            self.assertIs(is_loop(thing), False, thing)

    def test_strange_letters_are_none(self):
        for letter in STRANGE_LETTERS:
            self.assertIs(is_loop(letter), False, ascii(letter))
            self.assertIs(is_loop("a" + letter), False, ascii(letter))

    def test_how_many_letters(self):
        for size in range(30):
            self.assertIs(is_loop("ab" * (size // 2) + "a" * (size % 2)), 1 <= size <= 12, size)


class TestIsPlain(unittest.TestCase):
    def test_plain_loops(self):
        for loop in ["a", "ab", "ba", "abcdefghijkl", "zebra"]:
            self.assertIs(is_plain(loop), True, loop)

    def test_loops_that_are_not(self):
        for loop in ["aa", "aba", "abab", "abcdefghijka", "a" * 12, "noon"]:
            self.assertIs(is_plain(loop), False, loop)


class TestRoot(unittest.TestCase):
    def test_ordinary_loops(self):
        self.assertEqual(root("abab"), "ab")
        self.assertEqual(root("aba"), "aba")
        self.assertEqual(root("abaaba"), "aba")
        self.assertEqual(root("abcabcabcabc"), "abc")
        self.assertEqual(root("aabaab"), "aab")
        self.assertEqual(root("ababa"), "ababa")
        self.assertEqual(root("aabaabaa"), "aabaabaa")

    def test_one_letter_and_twelve(self):
        self.assertEqual(root("a"), "a")
        self.assertEqual(root("a" * 12), "a")
        self.assertEqual(root("abcdefghijkl"), "abcdefghijkl")
        self.assertEqual(root("abcdefabcdef"), "abcdef")
        self.assertEqual(root("aaaaaaaaaaab"), "aaaaaaaaaaab")

    def test_it_is_the_shortest_that_is_the_same(self):
        for loop in loops_to("ab", 8) + loops_to("abc", 5):
            endless = loop * 40
            sizes = [size for size in range(1, 13) if (endless[:size] * 400)[:len(endless)] == endless]
            self.assertEqual(root(loop), endless[:min(sizes)], loop)

    def test_said_several_times_it_has_the_same_root(self):
        for loop in loops_to("ab", 6):
            for many in range(1, 12 // len(loop) + 1):
                self.assertEqual(root(loop * many), root(loop), (loop, many))


class TestTurned(unittest.TestCase):
    def test_ordinary_turns(self):
        self.assertEqual(turned("abc", 1), "bca")
        self.assertEqual(turned("abc", 2), "cab")
        self.assertEqual(turned("abab", 1), "baba")
        self.assertEqual(turned("aab", 1), "aba")

    def test_by_none_and_by_whole_turns(self):
        for loop in ["a", "ab", "abab", "abcdefghijkl"]:
            for turns in (0, 1, -1, 5, 10 ** 35, -10 ** 35):
                self.assertEqual(turned(loop, turns * len(loop)), loop)

    def test_below_none(self):
        self.assertEqual(turned("abc", -1), "cab")
        self.assertEqual(turned("abc", -2), "bca")
        self.assertEqual(turned("abcd", -7), "bcda")

    def test_far_beyond_its_length(self):
        self.assertEqual(turned("abc", 10 ** 36), "bca")
        self.assertEqual(turned("abc", -10 ** 36), "cab")
        self.assertEqual(turned("abcdefghijkl", 10 ** 36 + 5), "jklabcdefghi")
        self.assertEqual(turned("a", 10 ** 36), "a")

    def test_it_is_the_endless_loop_from_there(self):
        for loop in loops_to("ab", 5) + ["abcdefghijkl"]:
            endless = loop * 4
            for by in range(2 * len(loop)):
                self.assertEqual(turned(loop, by), endless[by:by + len(loop)])
                self.assertEqual(turned(turned(loop, by), -by), loop)


class TestAlikeFor(unittest.TestCase):
    def test_ordinary_loops(self):
        self.assertEqual(alike_for("abc", "abd"), 2)
        self.assertEqual(alike_for("ab", "aba"), 3)
        self.assertEqual(alike_for("aba", "ab"), 3)
        self.assertEqual(alike_for("a", "aab"), 2)
        self.assertEqual(alike_for("a", "b"), 0)
        self.assertEqual(alike_for("abcdefghijkl", "abcdefghijkm"), 11)

    def test_they_may_be_alike_beyond_the_longer_one(self):
        self.assertEqual(alike_for("abaab", "abaababa"), 11)
        self.assertEqual(alike_for("a" * 11 + "b", "a"), 11)
        self.assertEqual(alike_for("aba", "abaab"), 6)

    def test_two_writings_of_one_endless_loop(self):
        self.assertIsNone(alike_for("ab", "ab"))
        self.assertIsNone(alike_for("ab", "ababab"))
        self.assertIsNone(alike_for("abab", "ababab"))
        self.assertIsNone(alike_for("a", "a" * 12))
        self.assertIsNone(alike_for("abcabc", "abcabcabc"))

    def test_a_turned_loop_is_another(self):
        self.assertEqual(alike_for("ab", "ba"), 0)
        self.assertEqual(alike_for("aab", "aba"), 1)

    def test_all_small_loops(self):
        loops = loops_to("ab", 6)
        for one in loops:
            for other in loops:
                unlike = [at for at in range(60) if one[at % len(one)] != other[at % len(other)]]
                due = unlike[0] if unlike else None
                self.assertEqual(alike_for(one, other), due, (one, other))

    def test_zero_is_no_none(self):
        self.assertIs(type(alike_for("a", "b")), int)


class TestRefusals(unittest.TestCase):
    def test_no_loop(self):
        for thing in NOT_LOOPS + OTHERS:
            for told in (is_plain, root):
                with self.assertRaises(NoLoop):
                    told(thing)
            with self.assertRaises(NoLoop):
                turned(thing, 0)
            with self.assertRaises(NoLoop):
                turned(thing, 1)
            with self.assertRaises(NoLoop):
                alike_for(thing, "ab")
            with self.assertRaises(NoLoop):
                alike_for("ab", thing)
            with self.assertRaises(NoLoop):
                alike_for(thing, thing)


if __name__ == "__main__":
    unittest.main()
