import unittest

from tapepour import errors
from tapepour.errors import Cross, Dry, NoPour, Stuck, TapeError

MADE_OF_AT = ["Dry", "NoPour", "Cross"]
MADE_OF_TEXT = ["TooMany", "NoText", "Busy", "NoItems", "NoDeed", "NoNumber", "NoRow"]


class ErrorsTest(unittest.TestCase):
    def test_any_refusal_is_a_value_error(self):
        self.assertEqual(TapeError.__bases__, (ValueError,))
        self.assertEqual(str(TapeError("why")), "why")

    def test_each_stands_right_under_tape_error(self):
        for name in ["Stuck"] + MADE_OF_AT + MADE_OF_TEXT:
            with self.subTest(name=name):
                self.assertEqual(getattr(errors, name).__bases__, (TapeError,))

    def test_stuck_has_the_fields_at_and_load(self):
        refusal = Stuck(3, (0, 0, 2))
        self.assertEqual(refusal.at, 3)
        self.assertEqual(refusal.load, (0, 0, 2))

    def test_stuck_takes_numbers_of_sixty_figures(self):
        great = 10 ** 60 - 1
        refusal = Stuck(1000, (great, great, great))
        self.assertEqual((refusal.at, refusal.load), (1000, (great, great, great)))

    def test_the_three_of_plans_have_the_field_at(self):
        for name in MADE_OF_AT:
            with self.subTest(name=name):
                self.assertEqual(getattr(errors, name)(0).at, 0)
                self.assertEqual(getattr(errors, name)(7).at, 7)

    def test_fields_are_each_objects_own(self):
        first, second = Dry(1), Dry(2)
        self.assertEqual((first.at, second.at), (1, 2))

    def test_the_others_are_made_of_a_text(self):
        for name in MADE_OF_TEXT:
            with self.subTest(name=name):
                self.assertEqual(str(getattr(errors, name)("because")), "because")

    def test_each_is_caught_as_a_refusal_and_not_as_another_one(self):
        refusals = [Stuck(0, (0, 0, 0)), Dry(0), NoPour(0), Cross(0)]
        refusals += [getattr(errors, name)("why") for name in MADE_OF_TEXT]
        for refusal in refusals:
            with self.subTest(refusal=refusal):
                self.assertIsInstance(refusal, TapeError)
                names = [name for name in ["Stuck"] + MADE_OF_AT + MADE_OF_TEXT
                         if isinstance(refusal, getattr(errors, name))]
                self.assertEqual(names, [type(refusal).__name__])


if __name__ == "__main__":
    unittest.main()
