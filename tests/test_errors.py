import unittest

from hideworth import errors
from tests.asking import NAMES

VALUES = {"NoWeb": "road", "NoPlan": "at", "NoText": "row", "NoPaper": "k"}


def made(name, number=7):
    return getattr(errors, name)(number) if name in VALUES else getattr(errors, name)()


class Errors(unittest.TestCase):
    def test_any_refusal_is_a_value_error(self):
        self.assertEqual(errors.HideError.__bases__, (ValueError,))

    def test_all_stand_straight_under_it(self):
        for name in NAMES:
            with self.subTest(name):
                self.assertEqual(getattr(errors, name).__bases__, (errors.HideError,))

    def test_there_are_no_others(self):
        there = [name for name, thing in vars(errors).items() if isinstance(thing, type)]
        self.assertEqual(sorted(there), sorted(NAMES + ("HideError",)))

    def test_each_is_caught_by_its_name_and_by_no_other(self):
        for name in NAMES:
            for other in NAMES + ("HideError",):
                with self.subTest(name, other=other):
                    caught = False
                    try:
                        raise made(name)
                    except getattr(errors, other):
                        caught = True
                    except ValueError:
                        pass
                    self.assertEqual(caught, other in (name, "HideError"))

    def test_values(self):
        for name, value in VALUES.items():
            for number in (-1, 0, 119):
                with self.subTest(name, number=number):
                    self.assertEqual(getattr(made(name, number), value), number)

    def test_values_are_the_objects_own(self):
        for name, value in VALUES.items():
            one, other = made(name, 3), made(name, 4)
            self.assertEqual((getattr(one, value), getattr(other, value)), (3, 4))

    def test_words_may_be_told(self):
        for name in NAMES:
            if name not in VALUES:
                with self.subTest(name):
                    self.assertIn("why", str(getattr(errors, name)("why")))


if __name__ == "__main__":
    unittest.main()
