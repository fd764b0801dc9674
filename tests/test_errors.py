import unittest

from lackstretch import errors

NAMES = ["NoBase", "NoNumber", "NoFigures", "NoRule", "NoStand", "NoGood", "Endless", "NoRules", "NoStretch",
         "TooMany", "NoText", "NoName", "NoRow"]


class Errors(unittest.TestCase):
    def test_all_stand_under_lack_error(self):
        self.assertTrue(issubclass(errors.LackError, ValueError))
        for name in NAMES:
            with self.subTest(name=name):
                self.assertTrue(issubclass(getattr(errors, name), errors.LackError))
                self.assertEqual(getattr(errors, name).__name__, name)

    def test_none_stands_under_another(self):
        for name in NAMES:
            for other in NAMES:
                if name != other:
                    with self.subTest(name=name, other=other):
                        self.assertFalse(issubclass(getattr(errors, name), getattr(errors, other)))

    def test_lack_error_stands_under_none_of_them(self):
        for name in NAMES:
            self.assertFalse(issubclass(errors.LackError, getattr(errors, name)))


if __name__ == "__main__":
    unittest.main()
