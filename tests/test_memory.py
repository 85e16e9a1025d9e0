import unittest

from greyhall.errors import NoField, NoThing
from helper import HANDS, let_go, new_hall, row_of_things, sweep_away, told


class AtFirst(unittest.TestCase):
    """[0.4]"""

    def test_each_hand_has_the_number_0_and_no_thing_is_there(self):
        for size in (4, 57, 200):
            memory, sweeper = new_hall(size)
            for hand in HANDS:
                self.assertEqual(memory.value_of(hand), ("number", 0))
                self.assertEqual(memory.shape_of(hand), ("number", 0))
            self.assertEqual(memory.blocks(), ((0, size, 0),))
            self.assertEqual(sweeper.colours(), ())
            self.assertEqual(sweeper.phase(), "idle")
            self.assertIsNone(sweeper.finger())

    def test_a_thing_lies_in_2_words_and_one_for_each_field(self):
        for many in range(7):
            memory, _ = row_of_things(200, many)
            self.assertEqual(memory.blocks(), ((0, 2 + many, 1), (2 + many, 198 - many, 0)))

    def test_the_least_size(self):
        memory, _ = row_of_things(4, 2)
        self.assertEqual(memory.blocks(), ((0, 4, 1),))
        memory, _ = row_of_things(4, 0, 0)
        self.assertEqual(memory.blocks(), ((0, 2, 1), (2, 2, 1)))

    def test_the_greatest_size_full_of_the_least_things(self):
        memory, sweeper = new_hall(200)
        sweeper.make(0, 1)
        for _ in range(98):
            sweeper.make(1, 1)
            sweeper.store(1, 0, 0)
            memory.copy(0, 1)
            if memory.blocks()[-1] == (198, 2, 0):
                break
        self.assertEqual(len(memory.shape_of(0)), 66)
        sweeper.make(2, 0)
        self.assertEqual(memory.place_of(2), 198)

    def test_two_halls_share_nothing(self):
        first, _ = row_of_things(10, 1)
        second, _ = new_hall(10)
        self.assertEqual(second.blocks(), ((0, 10, 0),))
        self.assertEqual(second.value_of(0), ("number", 0))
        self.assertEqual(first.value_of(0), ("thing", 1))

    def test_what_lies_somewhat_beyond_the_bounds_is_not_refused(self):
        memory, sweeper = new_hall(3)
        sweeper.make(0, 1)
        self.assertEqual(memory.blocks(), ((0, 3, 1),))
        memory, sweeper = new_hall(201)
        sweeper.make(8, 7)
        self.assertEqual(memory.blocks(), ((0, 9, 1), (9, 192, 0)))
        self.assertEqual(memory.value_of(8), ("thing", 7))
        self.assertEqual(memory.value_of(-1), ("number", 0))
        sweeper.begin()
        self.assertEqual(sweeper.colours(), ("grey",))


class NumbersAndCopies(unittest.TestCase):
    """[1.1], [1.3]"""

    def test_number(self):
        memory, _ = new_hall(10)
        for n in (0, 1, -1, 10 ** 30, -(10 ** 30)):
            self.assertIsNone(memory.number(3, n))
            self.assertEqual(memory.value_of(3), ("number", n))
            self.assertEqual(memory.shape_of(3), ("number", n))
        self.assertEqual(memory.value_of(2), ("number", 0))

    def test_number_over_a_thing(self):
        memory, _ = row_of_things(10, 1)
        memory.number(0, 5)
        self.assertEqual(memory.value_of(0), ("number", 5))
        self.assertEqual(memory.blocks(), ((0, 3, 1), (3, 7, 0)))

    def test_copy_of_a_number(self):
        memory, _ = new_hall(10)
        memory.number(0, 7)
        self.assertIsNone(memory.copy(7, 0))
        memory.number(0, 8)
        self.assertEqual(memory.value_of(7), ("number", 7))

    def test_copy_of_a_thing_makes_no_other(self):
        memory, sweeper = row_of_things(10, 2)
        memory.copy(1, 0)
        self.assertTrue(memory.alike(0, 1))
        self.assertEqual(memory.blocks(), ((0, 4, 1), (4, 6, 0)))
        memory.number(2, 9)
        sweeper.store(1, 1, 2)
        self.assertEqual(memory.shape_of(0), ((("number", 0), ("number", 9)),))

    def test_copy_onto_itself(self):
        memory, _ = row_of_things(10, 2)
        memory.copy(0, 0)
        self.assertEqual(memory.value_of(0), ("thing", 2))


class Makes(unittest.TestCase):
    """[1.1]"""

    def test_a_made_thing_has_so_many_fields_with_the_number_0(self):
        for many in range(7):
            memory, sweeper = new_hall(20)
            self.assertIsNone(sweeper.make(4, many))
            self.assertEqual(memory.value_of(4), ("thing", many))
            self.assertEqual(memory.shape_of(4), ((("number", 0),) * many,))

    def test_a_made_thing_is_another_one(self):
        memory, sweeper = row_of_things(20, 2)
        memory.copy(1, 0)
        sweeper.make(0, 2)
        self.assertFalse(memory.alike(0, 1))
        memory.number(2, 6)
        sweeper.store(0, 0, 2)
        self.assertEqual(memory.shape_of(1), ((("number", 0), ("number", 0)),))

    def test_fields_are_0_where_another_thing_lay_before(self):
        memory, sweeper = row_of_things(5, 3)
        memory.number(1, 9)
        sweeper.store(0, 2, 1)
        sweep_away(memory, sweeper, 0)
        sweeper.make(0, 3)
        self.assertEqual(memory.shape_of(0), ((("number", 0),) * 3,))


class LoadsAndStores(unittest.TestCase):
    """[1.1]"""

    def test_a_number_goes_into_a_field_and_out(self):
        for field in range(6):
            memory, sweeper = row_of_things(20, 6)
            memory.number(1, 40 + field)
            self.assertIsNone(sweeper.store(0, field, 1))
            self.assertIsNone(memory.load(2, 0, field))
            self.assertEqual(memory.value_of(2), ("number", 40 + field))
            for other in range(6):
                memory.load(3, 0, other)
                self.assertEqual(memory.value_of(3), ("number", 40 + field if other == field else 0))

    def test_a_thing_goes_into_a_field_and_out(self):
        memory, sweeper = row_of_things(20, 1, 2)
        sweeper.store(0, 0, 1)
        memory.load(2, 0, 0)
        self.assertTrue(memory.alike(1, 2))
        self.assertFalse(memory.alike(0, 2))

    def test_a_hand_loads_from_the_thing_that_it_holds_itself(self):
        memory, sweeper = row_of_things(20, 1, 2)
        sweeper.store(0, 0, 1)
        memory.load(0, 0, 0)
        self.assertTrue(memory.alike(0, 1))

    def test_a_thing_holds_itself(self):
        memory, sweeper = row_of_things(20, 1)
        sweeper.store(0, 0, 0)
        self.assertEqual(memory.shape_of(0), ((("thing", 0),),))

    def test_a_number_is_stored_over_a_thing(self):
        memory, sweeper = row_of_things(20, 1, 0)
        sweeper.store(0, 0, 1)
        memory.number(1, 3)
        sweeper.store(0, 0, 1)
        self.assertEqual(memory.shape_of(0), ((("number", 3),),))


class Refusals(unittest.TestCase):
    """[1.2]"""

    def refused(self, error, memory, sweeper, call, *handed):
        before = told(memory, sweeper)
        with self.assertRaises(error) as caught:
            call(*handed)
        self.assertIs(type(caught.exception), error)
        self.assertEqual(told(memory, sweeper), before)

    def test_a_number_where_a_thing_is_due(self):
        memory, sweeper = row_of_things(20, 2)
        memory.number(1, 3)
        self.refused(NoThing, memory, sweeper, memory.load, 0, 1, 0)
        self.refused(NoThing, memory, sweeper, sweeper.store, 1, 0, 0)
        self.refused(NoThing, memory, sweeper, memory.place_of, 1)

    def test_the_number_0_is_no_thing_either(self):
        memory, sweeper = new_hall(20)
        self.refused(NoThing, memory, sweeper, memory.load, 0, 0, 0)
        self.refused(NoThing, memory, sweeper, sweeper.store, 0, 0, 0)

    def test_a_field_that_the_thing_has_not(self):
        for many in range(7):
            memory, sweeper = row_of_things(20, many)
            for field in (-many - 1, -many, -1, many, many + 1, 100):
                if field != 0 or many == 0:
                    self.refused(NoField, memory, sweeper, memory.load, 1, 0, field)
                    self.refused(NoField, memory, sweeper, sweeper.store, 0, field, 1)

    def test_no_thing_comes_before_no_field(self):
        memory, sweeper = row_of_things(20, 2)
        for field in (-1, 2, 100):
            self.refused(NoThing, memory, sweeper, memory.load, 0, 1, field)
            self.refused(NoThing, memory, sweeper, sweeper.store, 1, field, 0)

    def test_a_number_may_be_stored_and_a_number_be_loaded_over(self):
        memory, sweeper = row_of_things(20, 2)
        sweeper.store(0, 0, 1)
        memory.load(1, 0, 0)

    def test_a_refused_store_makes_nothing_grey(self):
        memory, sweeper = row_of_things(20, 1, 1)
        sweeper.store(0, 0, 1)
        memory.number(1, 0)
        sweeper.begin()
        self.assertEqual(sweeper.colours(), ("grey", "white"))
        self.refused(NoField, memory, sweeper, sweeper.store, 0, 1, 2)
        self.refused(NoField, memory, sweeper, sweeper.store, 0, -1, 2)
        self.refused(NoThing, memory, sweeper, sweeper.store, 1, 0, 2)


class ValuesAndAlike(unittest.TestCase):
    """[1.3], [0.3]"""

    def test_alike_is_of_things_alone(self):
        memory, _ = row_of_things(20, 1, 1)
        memory.copy(2, 0)
        self.assertIs(memory.alike(0, 2), True)
        self.assertIs(memory.alike(2, 0), True)
        self.assertIs(memory.alike(0, 0), True)
        self.assertIs(memory.alike(0, 1), False)
        self.assertIs(memory.alike(0, 5), False)
        self.assertIs(memory.alike(5, 0), False)

    def test_equal_numbers_are_no_same_thing(self):
        memory, _ = new_hall(20)
        self.assertIs(memory.alike(0, 1), False)
        self.assertIs(memory.alike(0, 0), False)

    def test_only_tuples_texts_whole_numbers_and_none_are_told(self):
        def plain(value):
            if type(value) is tuple:
                return all(plain(part) for part in value)
            return value is None or type(value) in (str, int)

        memory, sweeper = row_of_things(20, 2, 1, 0)
        sweeper.store(0, 1, 1)
        sweeper.begin()
        for _ in range(8):
            for hand in HANDS:
                self.assertTrue(plain((memory.value_of(hand), memory.shape_of(hand))))
            self.assertTrue(plain((memory.blocks(), memory.place_of(0), memory.number(7, 1))))
            self.assertTrue(plain((sweeper.colours(), sweeper.phase(), sweeper.finger())))
            self.assertTrue(plain((sweeper.step(1),)))
        self.assertTrue(plain((sweeper.begin(), sweeper.finish(), sweeper.slide())))


class Shapes(unittest.TestCase):
    """[1.4]"""

    def test_things_come_breadth_first_each_at_its_first_coming(self):
        memory, sweeper = row_of_things(40, 3, 1, 2, 0, 1)
        sweeper.store(0, 0, 2)
        sweeper.store(0, 2, 1)
        sweeper.store(2, 0, 3)
        sweeper.store(2, 1, 4)
        sweeper.store(1, 0, 4)
        sweeper.store(4, 0, 0)
        memory.number(7, 11)
        sweeper.store(0, 1, 7)
        expected = (
            (("thing", 1), ("number", 11), ("thing", 2)),
            (("thing", 3), ("thing", 4)),
            (("thing", 4),),
            (),
            (("thing", 0),),
        )
        self.assertEqual(memory.shape_of(0), expected)

    def test_a_thing_held_twice_is_told_once(self):
        memory, sweeper = row_of_things(40, 2, 0)
        sweeper.store(0, 0, 1)
        sweeper.store(0, 1, 1)
        self.assertEqual(memory.shape_of(0), ((("thing", 1), ("thing", 1)), ()))

    def test_things_of_one_form_stay_two(self):
        memory, sweeper = row_of_things(40, 2, 0, 0)
        sweeper.store(0, 0, 1)
        sweeper.store(0, 1, 2)
        self.assertEqual(memory.shape_of(0), ((("thing", 1), ("thing", 2)), (), ()))

    def test_only_what_the_hand_comes_to_is_told(self):
        memory, sweeper = row_of_things(40, 1, 1)
        sweeper.store(0, 0, 1)
        self.assertEqual(memory.shape_of(1), ((("number", 0),),))

    def test_a_long_row_of_things(self):
        memory, sweeper = row_of_things(198, 1)
        for _ in range(65):
            sweeper.make(1, 1)
            sweeper.store(1, 0, 0)
            memory.copy(0, 1)
        shape = memory.shape_of(0)
        self.assertEqual(shape[:65], tuple((("thing", k + 1),) for k in range(65)))
        self.assertEqual(shape[65:], ((("number", 0),),))


class WhereThingsLie(unittest.TestCase):
    """[2.1] so far as a place is free, [2.2]"""

    def test_things_lie_one_beside_another(self):
        memory, _ = row_of_things(20, 0, 6, 1)
        self.assertEqual([memory.place_of(hand) for hand in range(3)], [0, 2, 10])
        self.assertEqual(memory.blocks(), ((0, 2, 1), (2, 8, 1), (10, 3, 1), (13, 7, 0)))

    def test_a_hall_that_is_just_full(self):
        memory, _ = row_of_things(13, 0, 6, 1)
        self.assertEqual(memory.blocks(), ((0, 2, 1), (2, 8, 1), (10, 3, 1)))

    def test_free_words_side_by_side_are_one_block(self):
        memory, sweeper = row_of_things(20, 0, 1, 2, 0)
        sweep_away(memory, sweeper, 1, 2)
        self.assertEqual(memory.blocks(), ((0, 2, 1), (2, 7, 0), (9, 2, 1), (11, 9, 0)))
        sweep_away(memory, sweeper, 0)
        self.assertEqual(memory.blocks(), ((0, 9, 0), (9, 2, 1), (11, 9, 0)))
        sweep_away(memory, sweeper, 3)
        self.assertEqual(memory.blocks(), ((0, 20, 0),))

    def test_a_gap_that_is_just_wide_enough_is_taken(self):
        memory, sweeper = row_of_things(20, 0, 3, 0)
        sweep_away(memory, sweeper, 1)
        sweeper.make(1, 3)
        self.assertEqual(memory.place_of(1), 2)
        self.assertEqual(memory.blocks(), ((0, 2, 1), (2, 5, 1), (7, 2, 1), (9, 11, 0)))

    def test_a_gap_that_is_one_word_too_small_is_passed(self):
        memory, sweeper = row_of_things(20, 0, 3, 0)
        sweep_away(memory, sweeper, 1)
        sweeper.make(1, 4)
        self.assertEqual(memory.place_of(1), 9)
        self.assertEqual(memory.blocks(), ((0, 2, 1), (2, 5, 0), (7, 2, 1), (9, 6, 1), (15, 5, 0)))

    def test_the_least_place_wins_over_the_closest_fit(self):
        memory, sweeper = row_of_things(40, 4, 0, 6, 0, 2, 0)
        sweep_away(memory, sweeper, 0, 2, 4)
        sweeper.make(7, 2)
        self.assertEqual(memory.place_of(7), 0)
        sweeper.make(7, 2)
        self.assertEqual(memory.place_of(7), 8)
        sweeper.make(7, 2)
        self.assertEqual(memory.place_of(7), 12)

    def test_what_a_hand_lets_go_lies_on_till_it_is_swept(self):
        memory, sweeper = row_of_things(20, 0)
        sweeper.make(0, 0)
        self.assertEqual(memory.place_of(0), 2)
        let_go(memory, 0)
        self.assertEqual(memory.blocks(), ((0, 2, 1), (2, 2, 1), (4, 16, 0)))


if __name__ == "__main__":
    unittest.main()
