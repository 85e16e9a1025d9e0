"""come_to: the places of all things to which hands come."""

import unittest

from greyhall.halls import Hall
from greyhall.walking import come_to
from helper import chain_of_things, let_go, row_of_things, sweep_away, told


class ComesTo(unittest.TestCase):
    def test_hands_that_hold_nothing(self):
        hall = Hall(20)
        self.assertEqual(come_to(hall), ())
        hall.number(0, 3)
        hall.number(7, -1)
        self.assertEqual(come_to(hall), ())

    def test_what_each_hand_holds(self):
        hall = row_of_things(40, 0, 1, 2, 3, 0, 1, 2, 3)
        self.assertEqual(come_to(hall), (0, 2, 5, 9, 14, 16, 19, 23))

    def test_hands_0_and_7_alone(self):
        hall = row_of_things(40, 0, 1, 2, 3, 0, 1, 2, 3)
        let_go(hall, 1, 2, 3, 4, 5, 6)
        self.assertEqual(come_to(hall), (0, 23))

    def test_places_rise_whatever_the_order_of_hands_and_fields(self):
        hall = row_of_things(40, 0, 1, 2, 0)
        hall.copy(7, 0)
        hall.copy(0, 3)
        let_go(hall, 3)
        hall.store(2, 0, 7)
        hall.store(2, 1, 1)
        let_go(hall, 7, 1)
        self.assertEqual(come_to(hall), (0, 2, 5, 9))

    def test_two_hands_that_hold_the_same_thing(self):
        hall = row_of_things(20, 1, 2)
        hall.copy(6, 1)
        hall.copy(7, 1)
        self.assertEqual(come_to(hall), (0, 3))
        let_go(hall, 1, 6)
        self.assertEqual(come_to(hall), (0, 3))

    def test_two_fields_that_hold_the_same_thing(self):
        hall = row_of_things(20, 2, 1, 0)
        hall.store(0, 0, 2)
        hall.store(0, 1, 2)
        hall.store(1, 0, 2)
        self.assertEqual(come_to(hall), (0, 4, 7))
        let_go(hall, 2)
        self.assertEqual(come_to(hall), (0, 4, 7))

    def test_fields_of_fields(self):
        self.assertEqual(come_to(chain_of_things(20, 1, 4)), (0, 3, 6, 9))

    def test_the_last_field_of_six(self):
        hall = row_of_things(20, 6, 0)
        hall.store(0, 5, 1)
        let_go(hall, 1)
        self.assertEqual(come_to(hall), (0, 8))

    def test_things_that_hold_one_another_in_a_ring(self):
        hall = row_of_things(20, 1, 1, 1)
        hall.store(0, 0, 1)
        hall.store(1, 0, 2)
        hall.store(2, 0, 0)
        let_go(hall, 0, 2)
        self.assertEqual(come_to(hall), (0, 3, 6))
        let_go(hall, 1)
        self.assertEqual(come_to(hall), ())

    def test_a_thing_that_holds_itself(self):
        hall = row_of_things(20, 1)
        hall.store(0, 0, 0)
        self.assertEqual(come_to(hall), (0,))
        let_go(hall, 0)
        self.assertEqual(come_to(hall), ())

    def test_things_that_no_hand_comes_to(self):
        hall = row_of_things(20, 1, 1, 1)
        hall.store(0, 0, 1)
        let_go(hall, 0, 1)
        self.assertEqual(hall.blocks(), ((0, 3, 1), (3, 3, 1), (6, 3, 1), (9, 11, 0)))
        self.assertEqual(come_to(hall), (6,))

    def test_numbers_are_no_places(self):
        hall = row_of_things(20, 2, 0)
        hall.number(1, 0)
        hall.number(2, 4)
        hall.store(0, 0, 2)
        self.assertEqual(come_to(hall), (0,))

    def test_a_row_of_as_many_things_as_a_hall_has_room_for(self):
        hall = chain_of_things(200, 1, 66)
        self.assertEqual(come_to(hall), tuple(range(0, 198, 3)))

    def test_places_are_those_of_now(self):
        hall = row_of_things(20, 1, 2, 0)
        hall.store(1, 0, 2)
        sweep_away(hall, 0, 2)
        self.assertEqual(come_to(hall), (3, 7))
        hall.slide()
        self.assertEqual(come_to(hall), (0, 4))

    def test_nothing_is_changed_in_any_phase(self):
        hall = row_of_things(30, 1, 2, 0)
        hall.store(1, 0, 2)
        hall.store(1, 1, 1)
        let_go(hall, 0, 2)
        hall.begin()
        phases = []
        while hall.phase() != "idle":
            phases.append(hall.phase())
            before = told(hall)
            self.assertEqual(come_to(hall), (3, 7))
            self.assertEqual(told(hall), before)
            hall.step(1)
        self.assertEqual(phases, ["mark"] * 2 + ["sweep"] * 3)

    def test_a_tuple_of_whole_numbers_is_told(self):
        found = come_to(row_of_things(20, 1, 2))
        self.assertIs(type(found), tuple)
        self.assertTrue(all(type(place) is int for place in found))


if __name__ == "__main__":
    unittest.main()
