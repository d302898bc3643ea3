import random
import unittest

from goings import NOT_NUMBERS, words_in_turn
from looplearn.coders import behind, coder_on
from looplearn.desk import Desk
from looplearn.errors import NoCount, NoKnown, NoLoop, NoRow, Nothing, NoWord
from looplearn.far import number_at
from looplearn.learners import Learner
from looplearn.rounds import ahead, ring
from looplearn.signs import sign_of
from looplearn.texts import read_coder, show_coder
from things import OTHERS, STRANGE_LETTERS

MOST = 10 ** 18

# Rows that are none, whether there is a Learner or not.
NO_ROWS = [
    "", " ", "\n", "loop", "loop ", " loop ab", "loop ab ", "loop  ab", "loop ab  a", "loop\nab", "loop ab\n",
    "loop\tab", "Loop ab", "LOOP ab", "loops ab", "loop AB", "loop aB", "loop ab A", "loop ab a B", "loop a1",
    "loop 1", "loop ab 1", "loop ab,a", "loop ab a,b", "loop 'ab'", "loop ab -", "loop ab.", "l ab", "loopab", "ab",
    "loop \u00e9", "loop ab \u00e9", "help", "ok", "quit", "log", "count", "knows a", "step", "learner", "tree",
]

# Rows that are none where there is a Learner.
NO_ROWS_OF_A_LEARNER = NO_ROWS + [
    "learn", "learn ", "learn  1", "learn 1 ", " learn 1", "learn 1\n", "\nlearn 1", "learn\n1", "learn\t1",
    "Learn 1", "LEARN 1", "learn one", "learn a", "learn -1", "learn +1", "learn 01", "learn 00", "learn 1.0",
    "learn 1e3", "learn 1_0", "learn 1 1", "learn 0x1", "learn " + "1" * 41, "learn " + "0" * 40, "learn1",
    "learn \u0661", "learn \u00b2", "learn \uff11", "learn None", "learn True", "learn 1,000",
    "teach", "teach ", "teach  c", "teach c ", " teach c", "teach c\n", "Teach c", "teach C", "teach c c", "teach 1",
    "teach c1", "teach -", "teach c,d", "teach \u00e9", "teachc",
    "back ", " back", "back 1", "back\n", "Back", "BACK", "back back", "back 0",
    "coder ", " coder", "coder 1", "Coder", "coder\n", "coder coder", "coders",
    "word", "word ", "word  1", "word 1 ", "word 01", "word -1", "word a", "word 1 1", "Word 1", "word 1\n",
    "word " + "9" * 41, "word +1", "words 1",
    "sign ", "sign 1", "Sign", "sign\n", " sign", "ahead ", "ahead 1", "Ahead", " ahead", "ahead\n",
    "ring ", "ring 1", "Ring", " ring", "ring\n", "round",
    "at", "at ", "at  1", "at 1 ", "at 01", "at -1", "at a", "at 1 1", "At 1", "at 1\n", "at " + "1" * 41, "at +0",
    "at 0 knows 0 0",
]


def desk_of(*rows):
    """A desk to which these rows were said."""
    desk = Desk()
    for row in rows:
        desk.say(row)
    return desk


def telling(desk):
    """All that a desk's Learner tells."""
    told = [desk.say(row) for row in ("coder", "sign", "ahead", "ring", "at 0", "at 77")]
    number = 1
    while True:
        try:
            told.append(desk.say(f"word {number}"))
        except NoCount:
            return told
        number += 1


class TestLoop(unittest.TestCase):
    def test_ordinary_rows(self):
        self.assertEqual(Desk().say("loop abc"), "ok")
        self.assertEqual(desk_of("loop abc").say("coder"), "at 0 knows 0 0 0")
        self.assertEqual(desk_of("loop abc a ab c").say("coder"), "at 0 knows 2 0 1")
        self.assertEqual(desk_of("loop a").say("coder"), "at 0 knows 0")
        self.assertEqual(desk_of("loop lkjihgfedcba").say("coder"), "at 0 knows" + " 0" * 12)

    def test_words_in_any_order(self):
        words = ["a", "ab", "abc", "b", "ca", "c", "z"]
        chance = random.Random(101)
        for _ in range(20):
            chance.shuffle(words)
            self.assertEqual(desk_of("loop abc " + " ".join(words)).say("coder"), "at 0 knows 3 1 2")

    def test_a_second_loop(self):
        desk = desk_of("loop abc a", "learn 9", "learn 1")
        self.assertEqual(desk.say("loop ba"), "ok")
        self.assertEqual(desk.say("coder"), "at 0 knows 0 0")
        for row, error in (("back", Nothing), ("word 1", NoCount)):
            with self.assertRaises(error):
                desk.say(row)

    def test_a_refused_loop_leaves_the_learner(self):
        desk = desk_of("loop abc a", "learn 9")
        due = telling(desk)
        for row in ("loop aa", "loop abcdefghijklm", "loop ab ba", "loop ab a a", "loop", "loop AB"):
            with self.assertRaises(ValueError):
                desk.say(row)
            self.assertEqual(telling(desk), due)
        desk.say("back")
        self.assertEqual(desk.say("coder"), "at 0 knows 1 0 0")

    def test_no_loop(self):
        for desk in (Desk(), desk_of("loop abc")):
            for row in ("loop aa", "loop aba", "loop abcdefghijklm", "loop noon n", "loop abab a a", "loop aa ba",
                        "loop abcdefghijklmn b ba"):
                with self.assertRaises(NoLoop):
                    desk.say(row)

    def test_no_known(self):
        for desk in (Desk(), desk_of("loop abc")):
            for row in ("loop ab ba", "loop ab a a", "loop ab a ab a", "loop ab z zz z", "loop ab zz",
                        "loop ab a b abc"):
                with self.assertRaises(NoKnown):
                    desk.say(row)

    def test_a_learner_is_not_begun_by_what_is_refused(self):
        desk = Desk()
        for row in ("loop aa", "loop ab ba", "loop AB"):
            with self.assertRaises(ValueError):
                desk.say(row)
            with self.assertRaises(NoRow):
                desk.say("coder")


class TestDeeds(unittest.TestCase):
    def test_ordinary_rows(self):
        desk = desk_of("loop abc a ab c")
        self.assertEqual(desk.say("learn 3"), "ok")
        self.assertEqual(desk.say("coder"), "at 2 knows 4 1 1")
        self.assertEqual(desk.say("teach ca"), "ok")
        self.assertEqual(desk.say("coder"), "at 2 knows 4 1 2")
        self.assertEqual(desk.say("back"), "ok")
        self.assertEqual(desk.say("back"), "ok")
        self.assertEqual(desk.say("coder"), "at 0 knows 2 0 1")

    def test_as_far_as_may_be(self):
        desk = desk_of("loop abcd", f"learn {MOST}")
        self.assertEqual(desk.say("coder"), show_coder(behind(coder_on("abcd", ()), MOST)))
        self.assertEqual(desk.say("word 1"), "a")

    def test_refusals_of_the_learner(self):
        desk = desk_of("loop abc a", "learn 4")
        due = telling(desk)
        for row, error in (
            ("learn 0", NoCount), (f"learn {MOST + 1}", NoCount), ("learn " + "9" * 40, NoCount),
            ("teach a", NoWord), ("teach z", NoWord), ("teach ac", NoWord), ("teach abcabc", NoWord),
            ("word 0", NoCount), ("word 5", NoCount), ("word " + "1" * 40, NoCount),
            (f"at {10 ** 36 + 1}", NoCount), ("at " + "9" * 40, NoCount),
        ):
            with self.assertRaises(error):
                desk.say(row)
            self.assertEqual(telling(desk), due)
        desk.say("back")
        for _ in range(2):
            with self.assertRaises(Nothing):
                desk.say("back")

    def test_against_a_learner(self):
        chance = random.Random(102)
        for loop in ("a", "qwe", "abcdefgh", "lkjihgfedcba"):
            desk, learner = desk_of("loop " + loop), Learner(loop, ())
            for _ in range(60):
                some = chance.random()
                if some < 0.5:
                    number = chance.choice([1, 2, 3, 20, MOST])
                    desk.say(f"learn {number}")
                    learner.learn(number)
                elif some < 0.7 and len(learner) > 0:
                    desk.say("back")
                    learner.back()
                else:
                    place = chance.randrange(len(loop))
                    size = learner.coder()[1][place] + 1
                    if size < 4000:
                        word = (loop * 4002)[place:place + size]
                        desk.say("teach " + word)
                        learner.teach(word)
                coder = learner.coder()
                self.assertEqual(desk.say("coder"), show_coder(coder))
                self.assertEqual(desk.say("sign"), " ".join(map(str, sign_of(coder))))
                self.assertEqual(desk.say("ahead"), str(ahead(coder)))
                rows = ring(coder)
                self.assertEqual(desk.say("ring"), "round" if rows is None else " ".join(map(str, rows)))
                letter = chance.randrange(10 ** chance.randint(1, 36))
                self.assertEqual(desk.say(f"at {letter}"), str(number_at(coder, letter)))
                if learner.count() > 0:
                    number = chance.randint(1, learner.count())
                    place, length = learner.word(number)
                    due = (loop * 62)[place:place + length] if length <= 60 else f"{place} {length}"
                    self.assertEqual(desk.say(f"word {number}"), due)


class TestTellings(unittest.TestCase):
    def test_coder(self):
        desk = desk_of("loop abc", "learn 5")
        self.assertEqual(read_coder(desk.say("coder")), behind((0, (0, 0, 0)), 5))

    def test_word(self):
        desk = desk_of("loop abc", "learn 6")
        self.assertEqual([desk.say(f"word {number}") for number in range(1, 7)], ["a", "b", "c", "ab", "ca", "bc"])

    def test_word_against_words_in_turn(self):
        desk = desk_of("loop abcde", "learn 200")
        for number, (place, length) in enumerate(words_in_turn((0, (0,) * 5), 200), start=1):
            self.assertEqual(desk.say(f"word {number}"), ("abcde" * 60)[place:place + length])

    def test_words_of_sixty_letters_and_sixty_one(self):
        desk = desk_of("loop a", "learn 70")
        for number in (1, 59, 60):
            self.assertEqual(desk.say(f"word {number}"), "a" * number)
        for number in (61, 62, 70):
            self.assertEqual(desk.say(f"word {number}"), f"0 {number}")
        desk = desk_of("loop ab", "learn 130")
        told = {}
        for number in range(1, 131):
            told[desk.say(f"word {number}")] = number
        for place in (0, 1):
            self.assertIn(("ab" * 32)[place:place + 60], told)
            self.assertNotIn(("ab" * 32)[place:place + 61], told)
            self.assertIn(f"{place} 61", told)
            self.assertNotIn(f"{place} 60", told)

    def test_a_far_word(self):
        desk = desk_of("loop a", f"learn {MOST}", f"learn {MOST}")
        self.assertEqual(desk.say(f"word {2 * MOST}"), f"0 {2 * MOST}")

    def test_sign(self):
        self.assertEqual(desk_of("loop abc a ab c").say("sign"), "0 0 1")
        self.assertEqual(desk_of("loop a").say("sign"), "0")
        desk = desk_of("loop abcdefghijkl")
        self.assertEqual(desk.say("sign"), "0" + " 11" * 11)
        desk.say("learn 77")
        self.assertEqual(desk.say("sign"), "0" + " 11" * 11)

    def test_ahead(self):
        desk = desk_of("loop abc")
        for due in ("2", "1", "0", "0"):
            self.assertEqual(desk.say("ahead"), due)
            desk.say("learn 1")
        self.assertEqual(desk_of("loop a").say("ahead"), "0")

    def test_ring(self):
        self.assertEqual(desk_of("loop abc b c ca").say("ring"), "1 2")
        self.assertEqual(desk_of("loop abc b bc c").say("ring"), "round")
        self.assertEqual(desk_of("loop abc").say("ring"), "1")
        self.assertEqual(desk_of("loop a").say("ring"), "round")

    def test_at(self):
        desk = desk_of("loop abc a ab c")
        self.assertEqual([desk.say(f"at {letter}") for letter in range(9)], list("111222234"))
        # Letters and words are counted from where it is.
        desk.say("learn 1")
        self.assertEqual([desk.say(f"at {letter}") for letter in range(6)], list("111123"))
        self.assertEqual(desk.say(f"at {10 ** 36}"), str(number_at((0, (3, 0, 1)), 10 ** 36)))

    def test_they_are_texts(self):
        desk = desk_of("loop abc")
        for row in ("learn 5", "coder", "word 1", "sign", "ahead", "ring", "at 5", "back", "teach a", "loop ab"):
            self.assertIs(type(desk.say(row)), str, row)


class TestNoRow(unittest.TestCase):
    def test_without_a_learner(self):
        desk = Desk()
        rows = ["learn 1", "learn 0", "teach a", "back", "coder", "word 1", "sign", "ahead", "ring", "at 0", "at 1"]
        for row in rows + NO_ROWS_OF_A_LEARNER:
            with self.assertRaises(NoRow, msg=ascii(row)):
                desk.say(row)

    def test_with_a_learner(self):
        desk = desk_of("loop ab", "learn 3")
        due = telling(desk)
        for row in NO_ROWS_OF_A_LEARNER:
            with self.assertRaises(NoRow, msg=ascii(row)):
                desk.say(row)
        self.assertEqual(telling(desk), due)
        desk.say("back")
        self.assertEqual(desk.say("coder"), "at 0 knows 0 0")

    def test_of_what_is_no_text(self):
        for desk in (Desk(), desk_of("loop ab")):
            more = [b"coder", ["coder"], ("coder",), ("loop", "ab"), desk]
            for thing in OTHERS + NOT_NUMBERS + STRANGE_LETTERS + more:
                with self.assertRaises(NoRow):
                    desk.say(thing)

    def test_great_letters_are_in_no_row(self):
        desk = desk_of("loop ab")
        for row in ("loop ab a", "learn 1", "teach a", "back", "coder", "word 1", "sign", "ahead", "ring", "at 1"):
            for other in {row.upper(), row.title(), row.capitalize()}:
                with self.assertRaises(NoRow):
                    desk.say(other)


class TestDesks(unittest.TestCase):
    def test_two_desks_do_not_hear_of_one_another(self):
        one, other = Desk(), Desk()
        one.say("loop abc")
        with self.assertRaises(NoRow):
            other.say("coder")
        other.say("loop ab a")
        one.say("learn 5")
        other.say("learn 1")
        self.assertEqual(one.say("coder"), show_coder(behind((0, (0, 0, 0)), 5)))
        self.assertEqual(other.say("coder"), "at 0 knows 2 0")
        other.say("back")
        self.assertEqual(one.say("coder"), show_coder(behind((0, (0, 0, 0)), 5)))
        self.assertEqual(other.say("coder"), "at 0 knows 1 0")

    def test_two_hundred_things(self):
        desk = desk_of("loop abcdefghijkl", *[f"learn {MOST}"] * 200)
        self.assertEqual(desk.say(f"word {1}"), "a")
        self.assertEqual(sum(read_coder(desk.say("coder"))[1]), 200 * MOST)
        for _ in range(200):
            desk.say("back")
        self.assertEqual(desk.say("coder"), "at 0 knows" + " 0" * 12)


if __name__ == "__main__":
    unittest.main()
