import unittest

from goings import FAR, NOT_CODERS, small_coders, some_coders
from looplearn.errors import NoCoder, NoText
from looplearn.texts import read_coder, show_coder
from things import OTHERS, STRANGE_LETTERS

# What is no coder's text though it looks like one.
NOT_TEXTS = [
    "", " ", "at", "at 0", "at 0 knows", "at 0 knows ", "at knows 0", "at 0 0", "0 0", "0 knows 0", "knows 0",
    " at 0 knows 0", "at 0 knows 0 ", "at  0 knows 0", "at 0  knows 0", "at 0 knows  0", "at 0 knows 0  0",
    "at 0 knows 0\n", "\nat 0 knows 0", "at 0\nknows 0", "at\t0 knows 0", "at 0 knows 0\n0", "at 0 knows 0,0",
    "At 0 knows 0", "AT 0 KNOWS 0", "at 0 Knows 0", "at 0 know 0", "in 0 knows 0", "at 0 knowss 0", "att 0 knows 0",
    "at 00 knows 0", "at 0 knows 00", "at 0 knows 01", "at 01 knows 0 0", "at 0 knows 0 007", "at 0 knows +1",
    "at +0 knows 0", "at -0 knows 0", "at 0 knows -1", "at 0 knows -0", "at -1 knows 0", "at 0 knows 1_0",
    "at 0 knows 1.0", "at 0 knows 1e3", "at 0 knows 0x1", "at 0 knows a", "at a knows 0", "at 0 knows (0)",
    "at 0 knows 0 a", "at 0 knows 0 None", "at None knows 0", "at True knows 0 0", "at 0 knows True",
    "at 1 knows 0", "at 2 knows 0 0", "at 12 knows" + " 0" * 12, "at 0 knows" + " 0" * 13, "at 12 knows" + " 0" * 13,
    "at 0 knows 0 at 0 knows 0", "at 0 knows knows 0", "at at 0 knows 0", "(0, (0,))", "at 0: knows 0", "at 0 knows 0.",
    "at 0 knows " + "1" * 41, "at 0 knows 0 " + "9" * 41, "at " + "1" * 40 + " knows 0", "at " + "0" * 40 + " knows 0",
    "at 0 knows " + "0" * 40, "at 0 knows 0" + "9" * 39,
]


class TestShowCoder(unittest.TestCase):
    def test_ordinary_coders(self):
        self.assertEqual(show_coder((0, (0,))), "at 0 knows 0")
        self.assertEqual(show_coder((1, (2, 0, 1))), "at 1 knows 2 0 1")
        self.assertEqual(show_coder((11, tuple(range(12)))), "at 11 knows 0 1 2 3 4 5 6 7 8 9 10 11")

    def test_many_figures(self):
        self.assertEqual(show_coder((0, (FAR, 10 ** 39))), "at 0 knows 1" + "0" * 30 + " 1" + "0" * 39)
        self.assertEqual(show_coder((0, (10 ** 40 - 1,))), "at 0 knows " + "9" * 40)

    def test_it_is_a_text(self):
        self.assertIs(type(show_coder((0, (0,)))), str)

    def test_no_coder(self):
        for thing in NOT_CODERS + OTHERS:
            with self.assertRaises(NoCoder):
                show_coder(thing)


class TestReadCoder(unittest.TestCase):
    def test_ordinary_texts(self):
        self.assertEqual(read_coder("at 0 knows 0"), (0, (0,)))
        self.assertEqual(read_coder("at 1 knows 2 0 1"), (1, (2, 0, 1)))
        self.assertEqual(read_coder("at 11 knows 0 1 2 3 4 5 6 7 8 9 10 11"), (11, tuple(range(12))))

    def test_it_is_what_was_shown(self):
        for coder in [*some_coders(91), *small_coders(1, 12), *small_coders(3, 3)]:
            self.assertEqual(read_coder(show_coder(coder)), coder)

    def test_forty_figures_and_one_more(self):
        for figure in "19":
            self.assertEqual(read_coder("at 0 knows " + figure * 40), (0, (int(figure * 40),)))
            self.assertEqual(read_coder("at 1 knows 0 " + figure * 40), (1, (0, int(figure * 40))))
            for text in ("at 0 knows " + figure * 41, "at 1 knows 0 " + figure * 41, "at 0 knows " + figure * 5000):
                with self.assertRaises(NoText):
                    read_coder(text)

    def test_no_text_of_what_is_none(self):
        for text in NOT_TEXTS:
            with self.assertRaises(NoText, msg=text):
                read_coder(text)

    def test_no_text_of_anything_else(self):
        more = [["at", "0"], b"at 0 knows 0", (0, (0,)), ("at 0 knows 0",)]
        for thing in OTHERS + STRANGE_LETTERS + NOT_CODERS + more:
            if thing != "at 0 knows 0":
                with self.assertRaises(NoText):
                    read_coder(thing)

    def test_strange_figures_are_none(self):
        for figure in ("\u00b2", "\u0663", "\uff11", "\u2460", "\u0967"):
            for text in ("at 0 knows " + figure, "at 0 knows 1" + figure, "at " + figure + " knows 0 0 0 0"):
                with self.assertRaises(NoText):
                    read_coder(text)

    def test_strange_blanks_are_none(self):
        for blank in ("\u00a0", "\u2003", "\t", "\n", "\r", "\v", "\x1f", "_"):
            with self.assertRaises(NoText):
                read_coder("at 0 knows 1" + blank + "1")

    def test_a_sign_more_fewer_or_exchanged(self):
        text = "at 1 knows 20 0 13"
        signs = "019 aZ\n-"
        others = {text[:at] + text[at + 1:] for at in range(len(text))}
        for sign in signs:
            others |= {text[:at] + sign + text[at:] for at in range(len(text) + 1)}
            others |= {text[:at] + sign + text[at + 1:] for at in range(len(text))}
        # Told by the text alone: numbers by their figures, one blank between, and no more.
        for other in sorted(others):
            try:
                coder = read_coder(other)
            except NoText:
                words = other.split(" ")
                figures = words[1:2] + words[3:]
                plain = all(word.isdigit() and str(int(word)) == word for word in figures)
                self.assertFalse(words[0] == "at" and words[2:3] == ["knows"] and len(words) > 3 and plain
                                 and int(words[1]) < len(words) - 3, other)
            else:
                self.assertEqual(show_coder(coder), other)

    def test_the_kinds_of_what_is_told(self):
        told = read_coder("at 1 knows 2 0 1")
        self.assertEqual([type(told), type(told[0]), type(told[1])], [tuple, int, tuple])
        self.assertEqual({type(length) for length in told[1]}, {int})


if __name__ == "__main__":
    unittest.main()
