"""[0.3], [0.4] and [1.1] to [1.4]: things and hands."""

import unittest

from greyhall.errors import NoField, NoThing
from greyhall.halls import Hall
from helper import HANDS, chain_of_things, check_refused, row_of_things, sweep_away


class AtFirst(unittest.TestCase):
    """[0.4]"""

    def test_each_hand_has_the_number_0_and_no_thing_is_there(self):
        for size in (4, 57, 200):
            hall = Hall(size)
            for hand in HANDS:
                self.assertEqual(hall.value_of(hand), ("number", 0))
                self.assertEqual(hall.shape_of(hand), ("number", 0))
            self.assertEqual(hall.blocks(), ((0, size, 0),))
            self.assertEqual(hall.colours(), ())
            self.assertEqual(hall.phase(), "idle")
            self.assertIsNone(hall.finger())

    def test_a_thing_lies_in_2_words_and_one_for_each_field(self):
        for many in range(7):
            hall = row_of_things(200, many)
            self.assertEqual(hall.blocks(), ((0, 2 + many, 1), (2 + many, 198 - many, 0)))

    def test_the_least_size(self):
        hall = row_of_things(4, 2)
        self.assertEqual(hall.blocks(), ((0, 4, 1),))
        hall = row_of_things(4, 0, 0)
        self.assertEqual(hall.blocks(), ((0, 2, 1), (2, 2, 1)))

    def test_the_greatest_size(self):
        hall = chain_of_things(200, 6, 25)
        self.assertEqual(hall.blocks(), tuple((place, 8, 1) for place in range(0, 200, 8)))
        self.assertEqual(len(hall.shape_of(0)), 25)

    def test_two_halls_share_nothing(self):
        first = row_of_things(10, 1)
        second = Hall(10)
        self.assertEqual(second.blocks(), ((0, 10, 0),))
        self.assertEqual(second.value_of(0), ("number", 0))
        self.assertEqual(first.value_of(0), ("thing", 1))

    def test_what_lies_somewhat_beyond_the_bounds_is_not_refused(self):
        hall = Hall(3)
        hall.make(0, 1)
        self.assertEqual(hall.blocks(), ((0, 3, 1),))
        hall = Hall(201)
        hall.make(8, 7)
        self.assertEqual(hall.blocks(), ((0, 9, 1), (9, 192, 0)))
        self.assertEqual(hall.value_of(8), ("thing", 7))
        self.assertEqual(hall.value_of(-1), ("number", 0))
        hall.begin()
        self.assertEqual(hall.colours(), ("grey",))


class NumbersAndCopies(unittest.TestCase):
    """[1.1], [1.3]"""

    def test_number(self):
        hall = Hall(10)
        for n in (0, 1, -1, 10 ** 30, -(10 ** 30)):
            self.assertIsNone(hall.number(3, n))
            self.assertEqual(hall.value_of(3), ("number", n))
            self.assertEqual(hall.shape_of(3), ("number", n))
        self.assertEqual(hall.value_of(2), ("number", 0))

    def test_number_over_a_thing(self):
        hall = row_of_things(10, 1)
        hall.number(0, 5)
        self.assertEqual(hall.value_of(0), ("number", 5))
        self.assertEqual(hall.blocks(), ((0, 3, 1), (3, 7, 0)))

    def test_copy_of_a_number(self):
        hall = Hall(10)
        hall.number(0, 7)
        self.assertIsNone(hall.copy(7, 0))
        hall.number(0, 8)
        self.assertEqual(hall.value_of(7), ("number", 7))

    def test_copy_of_a_thing_makes_no_other(self):
        hall = row_of_things(10, 2)
        hall.copy(1, 0)
        self.assertTrue(hall.alike(0, 1))
        self.assertEqual(hall.blocks(), ((0, 4, 1), (4, 6, 0)))
        hall.number(2, 9)
        hall.store(1, 1, 2)
        self.assertEqual(hall.shape_of(0), ((("number", 0), ("number", 9)),))

    def test_each_hand_is_its_own(self):
        hall = Hall(20)
        for hand in HANDS:
            hall.number(hand, 10 + hand)
        self.assertEqual([hall.value_of(hand) for hand in HANDS], [("number", 10 + hand) for hand in HANDS])
        hall.make(0, 1)
        hall.make(7, 2)
        for hand in range(1, 7):
            self.assertEqual(hall.value_of(hand), ("number", 10 + hand))
        hall.copy(3, 7)
        hall.store(0, 0, 7)
        hall.load(4, 0, 0)
        self.assertEqual([hand for hand in HANDS if hall.alike(7, hand)], [3, 4, 7])
        self.assertEqual([hand for hand in HANDS if hall.alike(hand, 0)], [0])

    def test_copy_onto_itself(self):
        hall = row_of_things(10, 2)
        hall.copy(0, 0)
        self.assertEqual(hall.value_of(0), ("thing", 2))


class Makes(unittest.TestCase):
    """[1.1]"""

    def test_a_made_thing_has_so_many_fields_with_the_number_0(self):
        for many in range(7):
            hall = Hall(20)
            self.assertIsNone(hall.make(4, many))
            self.assertEqual(hall.value_of(4), ("thing", many))
            self.assertEqual(hall.shape_of(4), ((("number", 0),) * many,))

    def test_a_made_thing_is_another_one(self):
        hall = row_of_things(20, 2)
        hall.copy(1, 0)
        hall.make(0, 2)
        self.assertFalse(hall.alike(0, 1))
        hall.number(2, 6)
        hall.store(0, 0, 2)
        self.assertEqual(hall.shape_of(1), ((("number", 0), ("number", 0)),))

    def test_fields_are_0_where_another_thing_lay_before(self):
        hall = row_of_things(5, 3)
        hall.number(1, 9)
        hall.store(0, 2, 1)
        sweep_away(hall, 0)
        hall.make(0, 3)
        self.assertEqual(hall.shape_of(0), ((("number", 0),) * 3,))


class LoadsAndStores(unittest.TestCase):
    """[1.1]"""

    def test_a_number_goes_into_a_field_and_out(self):
        for field in range(6):
            hall = row_of_things(20, 6)
            hall.number(1, 40 + field)
            self.assertIsNone(hall.store(0, field, 1))
            self.assertIsNone(hall.load(2, 0, field))
            self.assertEqual(hall.value_of(2), ("number", 40 + field))
            for other in range(6):
                hall.load(3, 0, other)
                self.assertEqual(hall.value_of(3), ("number", 40 + field if other == field else 0))

    def test_a_thing_goes_into_a_field_and_out(self):
        hall = row_of_things(20, 1, 2)
        hall.store(0, 0, 1)
        hall.load(2, 0, 0)
        self.assertTrue(hall.alike(1, 2))
        self.assertFalse(hall.alike(0, 2))

    def test_a_hand_loads_from_the_thing_that_it_holds_itself(self):
        hall = row_of_things(20, 1, 2)
        hall.store(0, 0, 1)
        hall.load(0, 0, 0)
        self.assertTrue(hall.alike(0, 1))

    def test_a_thing_holds_itself(self):
        hall = row_of_things(20, 1)
        hall.store(0, 0, 0)
        self.assertEqual(hall.shape_of(0), ((("thing", 0),),))

    def test_a_number_is_stored_over_a_thing(self):
        hall = row_of_things(20, 1, 0)
        hall.store(0, 0, 1)
        hall.number(1, 3)
        hall.store(0, 0, 1)
        self.assertEqual(hall.shape_of(0), ((("number", 3),),))


class Refusals(unittest.TestCase):
    """[1.2]"""

    def test_a_number_where_a_thing_is_due(self):
        hall = row_of_things(20, 2)
        hall.number(1, 3)
        check_refused(self, NoThing, hall, hall.load, 0, 1, 0)
        check_refused(self, NoThing, hall, hall.store, 1, 0, 0)
        check_refused(self, NoThing, hall, hall.place_of, 1)

    def test_the_number_0_is_no_thing_either(self):
        hall = Hall(20)
        check_refused(self, NoThing, hall, hall.load, 0, 0, 0)
        check_refused(self, NoThing, hall, hall.store, 0, 0, 0)

    def test_a_field_that_the_thing_has_not(self):
        for many in range(7):
            hall = row_of_things(20, many)
            for field in (-(10 ** 20), -many - 1, -many, -1, many, many + 1, 100, 10 ** 20):
                if field != 0 or many == 0:
                    check_refused(self, NoField, hall, hall.load, 1, 0, field)
                    check_refused(self, NoField, hall, hall.store, 0, field, 1)

    def test_no_thing_comes_before_no_field(self):
        hall = row_of_things(20, 2)
        for field in (-(10 ** 20), -1, 2, 100, 10 ** 20):
            check_refused(self, NoThing, hall, hall.load, 0, 1, field)
            check_refused(self, NoThing, hall, hall.store, 1, field, 0)

    def test_a_number_may_be_stored_and_a_number_be_loaded_over(self):
        hall = row_of_things(20, 2)
        hall.number(1, 6)
        hall.store(0, 0, 1)
        hall.number(1, 7)
        hall.load(1, 0, 0)
        self.assertEqual(hall.value_of(1), ("number", 6))

    def test_a_thing_in_the_other_hand_does_not_count(self):
        hall = row_of_things(20, 2)
        check_refused(self, NoThing, hall, hall.load, 0, 7, 0)
        check_refused(self, NoThing, hall, hall.store, 7, 0, 0)

    def test_a_field_counts_by_the_thing_that_is_held_now(self):
        hall = row_of_things(20, 0, 6)
        check_refused(self, NoField, hall, hall.load, 2, 0, 0)
        check_refused(self, NoField, hall, hall.store, 0, 0, 1)
        hall.copy(0, 1)
        hall.load(2, 0, 5)
        check_refused(self, NoField, hall, hall.load, 2, 0, 6)
        check_refused(self, NoField, hall, hall.store, 0, 6, 1)

    def test_a_refused_store_makes_nothing_grey(self):
        hall = row_of_things(20, 1, 1)
        hall.store(0, 0, 1)
        hall.number(1, 0)
        hall.begin()
        self.assertEqual(hall.colours(), ("grey", "white"))
        check_refused(self, NoField, hall, hall.store, 0, 1, 2)
        check_refused(self, NoField, hall, hall.store, 0, -1, 2)
        check_refused(self, NoThing, hall, hall.store, 1, 0, 2)


class ValuesAndAlike(unittest.TestCase):
    """[1.3], [0.3]"""

    def test_alike_is_of_things_alone(self):
        hall = row_of_things(20, 1, 1)
        hall.copy(2, 0)
        self.assertIs(hall.alike(0, 2), True)
        self.assertIs(hall.alike(2, 0), True)
        self.assertIs(hall.alike(0, 0), True)
        self.assertIs(hall.alike(0, 1), False)
        self.assertIs(hall.alike(0, 5), False)
        self.assertIs(hall.alike(5, 0), False)

    def test_equal_numbers_are_no_same_thing(self):
        hall = Hall(20)
        self.assertIs(hall.alike(0, 1), False)
        self.assertIs(hall.alike(0, 0), False)

    def test_only_tuples_texts_whole_numbers_and_none_are_told(self):
        def plain(value):
            if type(value) is tuple:
                return all(plain(part) for part in value)
            return value is None or type(value) in (str, int)

        hall = row_of_things(20, 2, 1, 0)
        hall.store(0, 1, 1)
        hall.begin()
        for _ in range(8):
            for hand in HANDS:
                self.assertTrue(plain((hall.value_of(hand), hall.shape_of(hand))))
            self.assertTrue(plain((hall.blocks(), hall.place_of(0), hall.number(7, 1))))
            self.assertTrue(plain((hall.colours(), hall.phase(), hall.finger())))
            self.assertTrue(plain((hall.step(1),)))
        self.assertTrue(plain((hall.begin(), hall.finish(), hall.slide())))


class Shapes(unittest.TestCase):
    """[1.4]"""

    def test_things_come_breadth_first_each_at_its_first_coming(self):
        hall = row_of_things(40, 3, 1, 2, 0, 1)
        hall.store(0, 0, 2)
        hall.store(0, 2, 1)
        hall.store(2, 0, 3)
        hall.store(2, 1, 4)
        hall.store(1, 0, 4)
        hall.store(4, 0, 0)
        hall.number(7, 11)
        hall.store(0, 1, 7)
        expected = (
            (("thing", 1), ("number", 11), ("thing", 2)),
            (("thing", 3), ("thing", 4)),
            (("thing", 4),),
            (),
            (("thing", 0),),
        )
        self.assertEqual(hall.shape_of(0), expected)

    def test_a_thing_held_twice_is_told_once(self):
        hall = row_of_things(40, 2, 0)
        hall.store(0, 0, 1)
        hall.store(0, 1, 1)
        self.assertEqual(hall.shape_of(0), ((("thing", 1), ("thing", 1)), ()))

    def test_things_of_one_form_stay_two(self):
        hall = row_of_things(40, 2, 0, 0)
        hall.store(0, 0, 1)
        hall.store(0, 1, 2)
        self.assertEqual(hall.shape_of(0), ((("thing", 1), ("thing", 2)), (), ()))

    def test_only_what_the_hand_comes_to_is_told(self):
        hall = row_of_things(40, 1, 1)
        hall.store(0, 0, 1)
        self.assertEqual(hall.shape_of(1), ((("number", 0),),))

    def test_a_long_row_of_things(self):
        shape = chain_of_things(198, 1, 66).shape_of(0)
        self.assertEqual(shape[:65], tuple((("thing", k + 1),) for k in range(65)))
        self.assertEqual(shape[65:], ((("number", 0),),))


if __name__ == "__main__":
    unittest.main()
