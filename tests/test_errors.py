import unittest

from evenrounds import errors

KINDS = [errors.BadTable, errors.BadSeating, errors.Uneven, errors.NoText]


class Errors(unittest.TestCase):
    def test_round_error_stands_straight_under_value_error(self):
        self.assertEqual(errors.RoundError.__bases__, (ValueError,))

    def test_each_kind_stands_under_round_error(self):
        for kind in KINDS:
            with self.subTest(kind=kind.__name__):
                self.assertTrue(issubclass(kind, errors.RoundError))
                self.assertNotEqual(kind, errors.RoundError)

    def test_none_stands_under_another(self):
        for kind in KINDS:
            for other in KINDS:
                if kind is not other:
                    with self.subTest(kind=kind.__name__, other=other.__name__):
                        self.assertFalse(issubclass(kind, other))

    def test_each_is_called_by_its_name(self):
        names = [kind.__name__ for kind in KINDS]
        self.assertEqual(names, ["BadTable", "BadSeating", "Uneven", "NoText"])

    def test_each_can_be_raised_and_taken(self):
        for kind in KINDS:
            for taken in (kind, errors.RoundError, ValueError):
                with self.subTest(kind=kind.__name__, taken=taken.__name__):
                    with self.assertRaises(taken):
                        raise kind("words")


if __name__ == "__main__":
    unittest.main()
