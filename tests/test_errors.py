import unittest

from greyhall.errors import HallError, NoField, NoRoom, NoThing, NotNow

REFUSALS = (NoThing, NoField, NoRoom, NotNow)


class TheTree(unittest.TestCase):
    def test_any_refusal_stands_straight_under_value_error(self):
        self.assertEqual(HallError.__bases__, (ValueError,))

    def test_each_refusal_stands_straight_under_hall_error(self):
        for refusal in REFUSALS:
            self.assertEqual(refusal.__bases__, (HallError,))

    def test_no_refusal_stands_under_another(self):
        for one in REFUSALS:
            for other in REFUSALS:
                self.assertEqual(issubclass(one, other), one is other)

    def test_the_names_are_those_of_the_interface(self):
        names = [refusal.__name__ for refusal in REFUSALS]
        self.assertEqual(names, ["NoThing", "NoField", "NoRoom", "NotNow"])


if __name__ == "__main__":
    unittest.main()
