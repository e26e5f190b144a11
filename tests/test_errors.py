import inspect
import unittest

from paneworks import errors
from paneworks.errors import (Full, Held, NoFile, NoNumber, NoPage, NoRight, NoRow, NoSpace, PaneError, Taken)

REFUSALS = [NoNumber, NoSpace, NoFile, NoPage, NoRight, Taken, Held, Full, NoRow]


class ErrorsTest(unittest.TestCase):
    def test_base_stands_under_value_error(self):
        self.assertEqual(PaneError.__bases__, (ValueError,))

    def test_each_refusal_stands_under_the_base_alone(self):
        for refusal in REFUSALS:
            with self.subTest(refusal=refusal.__name__):
                self.assertTrue(issubclass(refusal, PaneError))
                self.assertEqual(refusal.__bases__, (PaneError,))

    def test_no_refusal_stands_under_another(self):
        for one in REFUSALS:
            for other in REFUSALS:
                with self.subTest(one=one.__name__, other=other.__name__):
                    self.assertEqual(issubclass(one, other), one.__name__ == other.__name__)

    def test_the_nine_are_nine_classes(self):
        self.assertEqual(len(set(REFUSALS)), 9)

    def test_each_class_bears_its_name(self):
        told = {name for name, thing in vars(errors).items() if inspect.isclass(thing)}
        self.assertEqual(told, {"PaneError", "NoNumber", "NoSpace", "NoFile", "NoPage", "NoRight", "Taken",
                                "Held", "Full", "NoRow"})
        for refusal in REFUSALS:
            self.assertEqual(getattr(errors, refusal.__name__), refusal)

    def test_each_refusal_is_taken_by_its_class_and_by_the_base(self):
        for refusal in REFUSALS:
            for taken in (refusal, PaneError, ValueError):
                with self.subTest(refusal=refusal.__name__, taken=taken.__name__):
                    with self.assertRaises(taken):
                        raise refusal("words")


if __name__ == "__main__":
    unittest.main()
