import unittest

from loomlook import errors
from loomlook.errors import LoomError, NoClaim, NoLoom, NoMove, NoStep, NoText, NoWay, TooMany

SEVEN = [NoLoom, NoStep, NoClaim, NoText, NoMove, TooMany, NoWay]


class ErrorsTest(unittest.TestCase):
    def test_loom_error_stands_straight_under_value_error(self):
        self.assertEqual(LoomError.__bases__, (ValueError,))

    def test_each_of_the_seven_stands_straight_under_loom_error(self):
        for each in SEVEN:
            with self.subTest(each.__name__):
                self.assertEqual(each.__bases__, (LoomError,))

    def test_they_are_called_as_told(self):
        names = ["NoLoom", "NoStep", "NoClaim", "NoText", "NoMove", "TooMany", "NoWay"]
        self.assertEqual([each.__name__ for each in SEVEN], names)
        self.assertEqual([getattr(errors, name) for name in names], SEVEN)

    def test_none_of_the_seven_takes_another(self):
        for one in SEVEN:
            for other in SEVEN:
                with self.subTest(one=one.__name__, other=other.__name__):
                    self.assertEqual(issubclass(one, other), one is other)

    def test_each_is_taken_as_a_loom_error_and_as_a_value_error(self):
        for each in SEVEN:
            for above in (each, LoomError, ValueError):
                with self.subTest(each=each.__name__, above=above.__name__):
                    with self.assertRaises(above):
                        raise each("words")
