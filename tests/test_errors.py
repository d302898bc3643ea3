import unittest

from looplearn import errors

TOLD_BY_TEXT = [
    "NoKnown", "NoText", "NoLoop", "NoCoder", "NoCount", "NotRound", "NoTree", "NoSign",
    "NotLike", "NoPlace", "NoCounts", "NoWord", "Nothing", "NoLog", "NoRow",
]


class TestRefusals(unittest.TestCase):
    def test_learn_error_is_a_value_error(self):
        self.assertEqual(errors.LearnError.__bases__, (ValueError,))

    def test_all_stand_straight_under_learn_error(self):
        for name in TOLD_BY_TEXT + ["NoPairs"]:
            with self.subTest(name=name):
                self.assertEqual(getattr(errors, name).__bases__, (errors.LearnError,))
                self.assertEqual(getattr(errors, name).__module__, "looplearn.errors")

    def test_they_are_made_of_a_text(self):
        for name in TOLD_BY_TEXT + ["LearnError"]:
            with self.subTest(name=name):
                refusal = getattr(errors, name)("why it is so")
                self.assertEqual(str(refusal), "why it is so")

    def test_one_is_not_caught_as_another(self):
        names = TOLD_BY_TEXT + ["NoPairs"]
        for name in names:
            for other in names:
                told = issubclass(getattr(errors, name), getattr(errors, other))
                self.assertEqual(told, name == other, (name, other))

    def test_no_pairs_is_made_of_a_number(self):
        for number in (0, 1, 7, 10 ** 20):
            self.assertEqual(errors.NoPairs(number).at, number)

    def test_no_pairs_has_its_own_number_on_each_object(self):
        one, other = errors.NoPairs(1), errors.NoPairs(2)
        self.assertEqual((one.at, other.at), (1, 2))
        self.assertEqual(vars(one), {"at": 1})

    def test_no_pairs_tells_its_number(self):
        self.assertIn("12", str(errors.NoPairs(12)))


if __name__ == "__main__":
    unittest.main()
