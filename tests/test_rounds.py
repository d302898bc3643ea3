import itertools
import unittest

from goings import FAR, NOT_CODERS, comes_back, late_coder, many_steps, one_step
from goings import small_coders, some_coders, steps_till_round
from looplearn.errors import NoCoder
from looplearn.rounds import ahead, in_round, is_ring, ring, round_of
from things import OTHERS


def is_ring_by_the_words(coder, places):
    """What the document says a ring is, of a list of places."""
    home, lengths = coder
    p = len(lengths)
    if not places or len(set(places)) != len(places) or min(places) != places[0] or home in places:
        return False
    led = [(place + lengths[place]) % p for place in places]
    return led == places[1:] + places[:1]


def lists_of_places(p):
    found = []
    for size in range(p + 1):
        found.extend(list(row) for row in itertools.permutations(range(p), size))
    return found


class TestInRound(unittest.TestCase):
    def test_ordinary_coders(self):
        self.assertIs(in_round((0, (0, 1))), True)
        self.assertIs(in_round((0, (0, 0))), False)
        self.assertIs(in_round((0, (5, 2, 1))), True)
        self.assertIs(in_round((0, (5, 3, 1))), False)
        self.assertIs(in_round((1, (1, 0, 2))), True)
        self.assertIs(in_round((0, (0, 1, 2))), False)

    def test_one_place_is_always_in_its_round(self):
        for length in (0, 1, 2, FAR):
            self.assertIs(in_round((0, (length,))), True)

    def test_one_that_knows_nothing(self):
        for p in range(2, 13):
            for place in range(p):
                self.assertIs(in_round((place, (0,) * p)), False)

    def test_all_small_coders(self):
        for p in range(1, 5):
            for coder in small_coders(p, p):
                self.assertIs(in_round(coder), comes_back(coder), coder)

    def test_other_coders(self):
        for coder in some_coders():
            for many in (0, 1, 5, 30, 130):
                then = many_steps(coder, many)
                self.assertIs(in_round(then), comes_back(then), then)

    def test_as_many_as_there_are_rounds(self):
        for p, many in ((1, 1), (2, 1), (3, 3), (4, 16), (5, 125)):
            inside = [coder for coder in small_coders(p, p - 1) if in_round(coder)]
            self.assertEqual(len(inside), many * p * p)


class TestAhead(unittest.TestCase):
    def test_ordinary_coders(self):
        self.assertEqual(ahead((0, (0, 1))), 0)
        self.assertEqual(ahead((0, (0, 0))), 1)
        self.assertEqual(ahead((0, (1, 0))), 2)
        self.assertEqual(ahead((0, (0, 0, 0))), 2)

    def test_one_place(self):
        self.assertEqual(ahead((0, (0,))), 0)
        self.assertEqual(ahead((0, (FAR,))), 0)

    def test_as_late_as_may_be(self):
        for p in range(2, 13):
            self.assertEqual(ahead(late_coder(p)), (p - 1) ** 2 + 1)
            place, lengths = late_coder(p)
            far = tuple(length + p * FAR * (at % 2) for at, length in enumerate(lengths))
            self.assertEqual(ahead((place, far)), (p - 1) ** 2 + 1)

    def test_all_small_coders(self):
        for p in range(1, 5):
            found = [0]
            for coder in small_coders(p, p - 1):
                many = ahead(coder)
                self.assertEqual(many, steps_till_round(coder), coder)
                found.append(many)
            self.assertEqual(max(found), (p - 1) ** 2 + 1 if p > 1 else 0)

    def test_other_coders(self):
        for coder in some_coders():
            self.assertEqual(ahead(coder), steps_till_round(coder), coder)

    def test_each_step_is_one_nearer(self):
        coder = late_coder(7)
        for many in range(37, 0, -1):
            self.assertEqual(ahead(coder), many)
            coder = one_step(coder)
        for _ in range(60):
            self.assertEqual(ahead(coder), 0)
            coder = one_step(coder)

    def test_it_is_a_whole_number(self):
        for coder in [(0, (0,)), (0, (0, 0)), late_coder(12)]:
            self.assertIs(type(ahead(coder)), int)


class TestRoundOf(unittest.TestCase):
    def test_ordinary_coders(self):
        self.assertEqual(round_of((0, (0, 1))), [(0, 1), (1, 0), (1, 1), (0, 0)])
        self.assertEqual(round_of((0, (0, 0))), [(1, 1), (0, 0), (0, 1), (1, 0)])
        self.assertEqual(
            round_of((0, (0, 2, 1))),
            [(0, 1), (1, 0), (1, 1), (2, 2), (1, 2), (0, 2), (2, 0), (2, 1), (0, 0)],
        )

    def test_one_place(self):
        self.assertEqual(round_of((0, (0,))), [(0, 0)])
        self.assertEqual(round_of((0, (FAR + 1,))), [(0, 0)])

    def test_it_is_told_from_where_the_round_begins(self):
        for coder in some_coders():
            p = len(coder[1])
            begun, due = many_steps(coder, steps_till_round(coder)), []
            for _ in range(p * p):
                due.append((begun[0], (begun[1][begun[0]] + 1) % p))
                begun = one_step(begun)
            self.assertEqual(round_of(coder), due, coder)

    def test_each_place_begins_as_many_with_each_length(self):
        for coder in some_coders():
            p = len(coder[1])
            due = [(place, length) for place in range(p) for length in range(p)]
            self.assertEqual(sorted(round_of(coder)), due)

    def test_there_are_as_many_rounds(self):
        for p, many in ((1, 1), (2, 1), (3, 3), (4, 16)):
            found = set()
            for coder in small_coders(p, p - 1):
                words = round_of(coder)
                at = words.index((0, 0))
                found.add(tuple(words[at:] + words[:at]))
            self.assertEqual(len(found), many)

    def test_the_kinds_of_what_is_told(self):
        told = round_of((0, (0, 0)))
        self.assertIs(type(told), list)
        self.assertEqual([type(word) for word in told], [tuple] * 4)

    def test_the_list_is_the_askers_own(self):
        first = round_of((0, (0, 1)))
        first.pop()
        first[0] = None
        self.assertEqual(round_of((0, (0, 1))), [(0, 1), (1, 0), (1, 1), (0, 0)])


class TestRing(unittest.TestCase):
    def test_ordinary_coders(self):
        self.assertEqual(ring((0, (0, 0))), [1])
        self.assertEqual(ring((1, (0, 0))), [0])
        self.assertEqual(ring((0, (0, 1, 2))), [1, 2])
        self.assertEqual(ring((0, (0, 2, 1, 2))), [1, 3])
        self.assertEqual(ring((1, (2, 0, 1, 1))), [0, 2, 3])

    def test_none(self):
        self.assertIsNone(ring((0, (0, 1))))
        self.assertIsNone(ring((0, (0, 2, 1))))
        self.assertIsNone(ring((0, (0,))))
        self.assertIsNone(ring((0, (FAR,))))

    def test_the_coders_own_place_makes_none(self):
        self.assertIsNone(ring((0, (0, 2, 1))))
        self.assertIsNone(ring((1, (1, 1, 2))))
        self.assertIsNone(ring((0, (1, 1))))

    def test_of_several_the_least(self):
        self.assertEqual(ring((0, (0, 0, 0, 0))), [1])
        self.assertEqual(ring((1, (0, 0, 0, 0))), [0])
        self.assertEqual(ring((0, (0, 3, 0, 0, 2))), [1, 4])
        self.assertEqual(ring((0, (0, 2, 0, 3, 0))), [1, 3])
        self.assertEqual(ring((0, (0, 4, 0, 0, 0))), [2])

    def test_one_that_hangs_on_a_ring_is_not_in_it(self):
        self.assertEqual(ring((0, (0, 1, 0))), [2])
        self.assertEqual(ring((0, (0, 1, 1, 3))), [2, 3])
        self.assertEqual(ring((3, (1, 1, 0, 0))), [2])

    def test_long_rings(self):
        self.assertIsNone(ring((0, (0,) + (1,) * 11)))
        self.assertIsNone(ring((0, (0,) + (1,) * 10 + (1 + 12 * FAR,))))
        self.assertEqual(ring((0, (0,) + (1,) * 10 + (2,))), list(range(1, 12)))
        self.assertEqual(ring((0, (FAR,) + (1,) * 10 + (2 + 12 * FAR,))), list(range(1, 12)))
        self.assertEqual(ring((11, (1,) * 10 + (2, 0))), list(range(11)))
        self.assertEqual(ring((11, (1 + 12 * FAR,) * 10 + (2, FAR))), list(range(11)))

    def test_all_small_coders(self):
        for p in range(1, 5):
            lists = lists_of_places(p)
            for coder in small_coders(p, p - 1):
                found = [places for places in lists if is_ring_by_the_words(coder, places)]
                due = min(found) if found else None
                self.assertEqual(ring(coder), due, coder)
                self.assertIs(in_round(coder), not found, coder)

    def test_what_is_told_is_a_ring(self):
        for coder in some_coders():
            told = ring(coder)
            if told is None:
                self.assertIs(comes_back(coder), True)
            else:
                self.assertIs(type(told), list)
                self.assertIs(is_ring_by_the_words(coder, told), True, (coder, told))
                self.assertIs(comes_back(coder), False)

    def test_the_list_is_the_askers_own(self):
        first = ring((0, (0, 0)))
        first.append(5)
        self.assertEqual(ring((0, (0, 0))), [1])
        self.assertIsNot(ring((0, (0, 0))), ring((0, (0, 0))))


class TestIsRing(unittest.TestCase):
    def test_ordinary_rings(self):
        self.assertIs(is_ring((0, (0, 1, 2)), [1, 2]), True)
        self.assertIs(is_ring((0, (0, 0)), [1]), True)
        self.assertIs(is_ring((0, (0, 1, 2)), [2, 1]), False)
        self.assertIs(is_ring((0, (0, 1, 2)), [1]), False)
        self.assertIs(is_ring((0, (0, 1, 2)), [1, 2, 1]), False)
        self.assertIs(is_ring((0, (0, 1, 2)), [1, 2, 1, 2]), False)
        self.assertIs(is_ring((0, (0, 1, 2)), [0]), False)

    def test_each_ring_of_several(self):
        coder = (0, (0, 0, 0, 0, 0))
        for place in range(5):
            self.assertIs(is_ring(coder, [place]), place != 0)
        coder = (0, (0, 3, 0, 0, 2))
        for places in ([1, 4], [2], [3]):
            self.assertIs(is_ring(coder, places), True)

    def test_all_small_coders_and_lists(self):
        for p in range(1, 5):
            lists = lists_of_places(p)
            for coder in small_coders(p, p - 1):
                for places in lists:
                    self.assertIs(is_ring(coder, places), is_ring_by_the_words(coder, places), (coder, places))

    def test_lists_with_places_twice_or_beyond(self):
        coder = (0, (0, 1, 2, 0))
        for places in itertools.chain(*(itertools.product(range(-2, 6), repeat=size) for size in range(5))):
            self.assertIs(is_ring(coder, list(places)), list(places) in ([3],), places)

    def test_places_from_behind_are_none(self):
        self.assertIs(is_ring((0, (0, 0)), [-1]), False)
        self.assertIs(is_ring((0, (0, 1, 2)), [-2, -1]), False)
        self.assertIs(is_ring((0, (0, 0)), [3]), False)
        self.assertIs(is_ring((0, (0, 0)), [10 ** 36]), False)
        self.assertIs(is_ring((0, (0, 0)), [-10 ** 36]), False)

    def test_of_a_coder_in_its_round(self):
        for places in lists_of_places(3):
            self.assertIs(is_ring((0, (0, 2, 1)), places), False)
        self.assertIs(is_ring((0, (0,)), [0]), False)
        self.assertIs(is_ring((0, (0,)), []), False)

    def test_other_things(self):
        for coder in [(0, (0, 0)), (1, (0, 0)), (0, (0, 2, 1)), (0, (0,) * 12), (0, (FAR,))]:
            for thing in OTHERS:
                self.assertIs(is_ring(coder, thing), False, thing)

    def test_things_that_look_like_a_ring(self):
        for thing in [(1,), 1, "1", ["1"], [True], {1}, {1: 1}, [[1]], [(1,)], [1, None], [None, 1], [1, True],
                      [], (), None, [1, []], b"\x01", range(1, 2), [1, "a"], [b"\x01"], [{}], {1: 2}]:
            self.assertIs(is_ring((0, (0, 0)), thing), False, thing)
        self.assertIs(is_ring((1, (0, 0)), [0]), True)
        self.assertIs(is_ring((1, (0, 0)), [False]), False)
        self.assertIs(is_ring((0, (0, 1, 2)), (1, 2)), False)
        self.assertIs(is_ring((0, (0, 1, 2)), [True, 2]), False)

    def test_a_long_list(self):
        self.assertIs(is_ring((0, (0, 1, 2)), [1, 2] * 1000), False)

    def test_nothing_that_is_handed_in_is_changed(self):
        places = [1, 2]
        is_ring((0, (0, 1, 2)), places)
        self.assertEqual(places, [1, 2])

    def test_what_is_told_may_be_handed_in_again(self):
        for coder in some_coders():
            told = ring(coder)
            self.assertIs(is_ring(coder, told), told is not None)


class TestRefusals(unittest.TestCase):
    def test_no_coder(self):
        for thing in NOT_CODERS + OTHERS:
            for told in (in_round, ahead, round_of, ring):
                with self.assertRaises(NoCoder):
                    told(thing)
            for places in ([1], None, [], ()):
                with self.assertRaises(NoCoder):
                    is_ring(thing, places)


if __name__ == "__main__":
    unittest.main()
