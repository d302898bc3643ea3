import random
import unittest

from goings import FAR, NOT_CODERS, chance_coder, comes_back, late_coder, many_steps, one_step, small_coders
from looplearn.backs import before, befores
from looplearn.errors import NoCoder, NotRound
from things import OTHERS


def shorter_ones(coder):
    """All coders with one length less by one, at any place, that one step leads from."""
    lengths, found = coder[1], []
    for at in range(len(lengths)):
        row = list(lengths)
        row[at] -= 1
        for place in range(len(lengths)):
            if row[at] >= 0 and one_step((place, tuple(row))) == coder:
                found.append((place, tuple(row)))
    return sorted(found)


def some_coders():
    chance = random.Random(7)
    for p in range(1, 13):
        yield late_coder(p)
        yield 0, (0,) * p
        yield p - 1, (FAR,) * p
        for most in (1, 2, p, FAR):
            for _ in range(5):
                coder = chance_coder(chance, p, most)
                yield coder
                yield many_steps(coder, 130)


class TestBefores(unittest.TestCase):
    def test_ordinary_coders(self):
        self.assertEqual(befores((1, (1, 0, 0))), [(0, (0, 0, 0))])
        self.assertEqual(befores((0, (3, 2, 1))), [(0, (2, 2, 1)), (1, (3, 1, 1)), (2, (3, 2, 0))])
        self.assertEqual(befores((1, (1, 3, 2))), [(0, (0, 3, 2)), (1, (1, 2, 2)), (2, (1, 3, 1))])

    def test_none(self):
        for p in range(1, 13):
            self.assertEqual(befores((p - 1, (0,) * p)), [])
        self.assertEqual(befores((2, (1, 0, 0))), [])
        self.assertEqual(befores((1, (2, 0, 3))), [])

    def test_a_length_that_would_be_below_none(self):
        self.assertEqual(befores((0, (0,))), [])
        self.assertEqual(befores((0, (0, 1))), [(1, (0, 0))])
        self.assertEqual(befores((0, (2, 1))), [(0, (1, 1)), (1, (2, 0))])

    def test_one_place(self):
        self.assertEqual(befores((0, (1,))), [(0, (0,))])
        self.assertEqual(befores((0, (FAR,))), [(0, (FAR - 1,))])

    def test_twelve_at_once(self):
        lengths = tuple(12 - place for place in range(12))
        due = [(place, lengths[:place] + (lengths[place] - 1,) + lengths[place + 1:]) for place in range(12)]
        self.assertEqual(befores((0, lengths)), due)
        far = tuple(length + 12 * FAR for length in lengths)
        self.assertEqual([place for place, _ in befores((0, far))], list(range(12)))

    def test_all_small_coders(self):
        for p in range(1, 5):
            for coder in small_coders(p, p):
                self.assertEqual(befores(coder), shorter_ones(coder), coder)

    def test_other_coders(self):
        for coder in some_coders():
            told = befores(coder)
            self.assertEqual(told, shorter_ones(coder), coder)
            self.assertEqual(told, sorted(told))

    def test_what_a_coder_leads_to_has_it_among_them(self):
        for coder in some_coders():
            self.assertIn(coder, befores(one_step(coder)))

    def test_the_kinds_of_what_is_told(self):
        told = befores((0, (3, 2, 1)))
        self.assertIs(type(told), list)
        for coder in told:
            self.assertEqual([type(coder), type(coder[0]), type(coder[1])], [tuple, int, tuple])

    def test_the_list_is_the_askers_own(self):
        first = befores((1, (1, 0, 0)))
        first.append(None)
        self.assertEqual(befores((1, (1, 0, 0))), [(0, (0, 0, 0))])
        self.assertIsNot(befores((0, (0,))), befores((0, (0,))))


class TestBefore(unittest.TestCase):
    def test_ordinary_coders(self):
        self.assertEqual(before((0, (0, 1))), None)
        self.assertEqual(before((1, (1, 1))), (0, (0, 1)))
        self.assertEqual(before((1, (1, 2))), (1, (1, 1)))
        self.assertEqual(before((0, (2, 2, 1))), (2, (2, 2, 0)))

    def test_a_length_that_would_be_below_none(self):
        self.assertIsNone(before((0, (0,))))
        self.assertIsNone(before((0, (0, 2, 1))))
        self.assertIsNone(before((0, (0, 3, 2, 1))))
        self.assertEqual(before((0, (4, 3, 2, 1))), (0, (3, 3, 2, 1)))

    def test_others_may_lead_there_though_it_is_none(self):
        self.assertEqual(befores((0, (0, 2, 1))), [(1, (0, 1, 1)), (2, (0, 2, 0))])
        self.assertIsNone(before((0, (0, 2, 1))))

    def test_one_place(self):
        self.assertEqual(before((0, (1,))), (0, (0,)))
        self.assertEqual(before((0, (FAR,))), (0, (FAR - 1,)))

    def test_all_small_coders(self):
        for p in range(1, 5):
            for coder in small_coders(p, p):
                if comes_back(coder):
                    inside = [earlier for earlier in shorter_ones(coder) if comes_back(earlier)]
                    self.assertLessEqual(len(inside), 1)
                    self.assertEqual(before(coder), inside[0] if inside else None, coder)

    def test_it_is_none_just_where_a_length_would_be_below_none(self):
        for p in range(1, 5):
            for place, lengths in small_coders(p, p - 1):
                if comes_back((place, lengths)):
                    longer = place, tuple(length + p for length in lengths)
                    earlier = before(longer)
                    least = min(length - p for length in earlier[1])
                    self.assertEqual(before((place, lengths)) is None, least < 0)

    def test_other_coders_in_their_rounds(self):
        for coder in some_coders():
            if comes_back(coder):
                self.assertEqual(before(one_step(coder)), coder)
                earlier = before(coder)
                if earlier is not None:
                    self.assertEqual(one_step(earlier), coder)
                    self.assertIs(comes_back(earlier), True)

    def test_back_through_a_whole_round(self):
        for p in range(1, 13):
            start = many_steps(late_coder(p), 123)
            coder = many_steps(start, p * p)
            for many in range(p * p, 0, -1):
                self.assertEqual(coder, many_steps(start, many))
                coder = before(coder)
            self.assertEqual(coder, start)

    def test_the_kinds_of_what_is_told(self):
        told = before((1, (1, 1)))
        self.assertEqual([type(told), type(told[0]), type(told[1])], [tuple, int, tuple])


class TestRefusals(unittest.TestCase):
    def test_no_coder(self):
        for thing in NOT_CODERS + OTHERS:
            for told in (befores, before):
                with self.assertRaises(NoCoder):
                    told(thing)

    def test_not_round(self):
        for p in range(1, 5):
            for coder in small_coders(p, p - 1):
                if not comes_back(coder):
                    with self.assertRaises(NotRound):
                        before(coder)
        for p in range(2, 13):
            for coder in [late_coder(p), (0, (0,) * p), many_steps(late_coder(p), (p - 1) ** 2)]:
                with self.assertRaises(NotRound):
                    before(coder)

    def test_befores_does_not_ask_for_a_round(self):
        self.assertEqual(befores((0, (1, 0))), [])
        self.assertEqual(befores((1, (1, 0, 0, 0))), [(0, (0, 0, 0, 0))])


if __name__ == "__main__":
    unittest.main()
