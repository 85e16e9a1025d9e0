"""[2.1] to [2.3]: where things lie, how room is made, and sliding."""

import unittest

from greyhall.errors import NoRoom, NoThing, NotNow
from greyhall.halls import Hall
from helper import chain_of_things, check_refused, let_go, row_of_things, sweep_away, told


class WhereThingsLie(unittest.TestCase):
    """[2.1] so far as a place is free, [2.2]"""

    def test_things_lie_one_beside_another(self):
        hall = row_of_things(20, 0, 6, 1)
        self.assertEqual([hall.place_of(hand) for hand in range(3)], [0, 2, 10])
        self.assertEqual(hall.blocks(), ((0, 2, 1), (2, 8, 1), (10, 3, 1), (13, 7, 0)))

    def test_a_hall_that_is_just_full(self):
        hall = row_of_things(13, 0, 6, 1)
        self.assertEqual(hall.blocks(), ((0, 2, 1), (2, 8, 1), (10, 3, 1)))

    def test_place_of_a_number_is_refused(self):
        hall = row_of_things(20, 0)
        hall.number(6, 1)
        for hand in (1, 6, 7):
            check_refused(self, NoThing, hall, hall.place_of, hand)
        let_go(hall, 0)
        check_refused(self, NoThing, hall, hall.place_of, 0)

    def test_free_words_side_by_side_are_one_block(self):
        hall = row_of_things(20, 0, 1, 2, 0)
        sweep_away(hall, 1, 2)
        self.assertEqual(hall.blocks(), ((0, 2, 1), (2, 7, 0), (9, 2, 1), (11, 9, 0)))
        sweep_away(hall, 0)
        self.assertEqual(hall.blocks(), ((0, 9, 0), (9, 2, 1), (11, 9, 0)))
        sweep_away(hall, 3)
        self.assertEqual(hall.blocks(), ((0, 20, 0),))

    def test_a_gap_that_is_just_wide_enough_is_taken(self):
        hall = row_of_things(20, 0, 3, 0)
        sweep_away(hall, 1)
        hall.make(1, 3)
        self.assertEqual(hall.place_of(1), 2)
        self.assertEqual(hall.blocks(), ((0, 2, 1), (2, 5, 1), (7, 2, 1), (9, 11, 0)))

    def test_a_gap_that_is_one_word_too_small_is_passed(self):
        hall = row_of_things(20, 0, 3, 0)
        sweep_away(hall, 1)
        hall.make(1, 4)
        self.assertEqual(hall.place_of(1), 9)
        self.assertEqual(hall.blocks(), ((0, 2, 1), (2, 5, 0), (7, 2, 1), (9, 6, 1), (15, 5, 0)))

    def test_the_least_place_wins_over_the_closest_fit(self):
        hall = row_of_things(40, 4, 0, 6, 0, 2, 0)
        sweep_away(hall, 0, 2, 4)
        hall.make(7, 2)
        self.assertEqual(hall.place_of(7), 0)
        hall.make(7, 2)
        self.assertEqual(hall.place_of(7), 8)
        hall.make(7, 2)
        self.assertEqual(hall.place_of(7), 12)

    def test_what_a_hand_lets_go_lies_on_till_it_is_swept(self):
        hall = row_of_things(20, 0)
        hall.make(0, 0)
        self.assertEqual(hall.place_of(0), 2)
        let_go(hall, 0)
        self.assertEqual(hall.blocks(), ((0, 2, 1), (2, 2, 1), (4, 16, 0)))


class MakesWithoutAFreePlace(unittest.TestCase):
    """[2.1], [0.2] (d)"""

    def test_a_whole_sweep_and_a_slide_make_room_behind_the_last(self):
        hall = row_of_things(12, 1, 1, 1, 1)
        hall.number(7, 5)
        hall.store(3, 0, 7)
        let_go(hall, 0, 2)
        hall.make(4, 4)
        self.assertEqual(hall.blocks(), ((0, 3, 1), (3, 3, 1), (6, 6, 1)))
        self.assertEqual([hall.place_of(hand) for hand in (1, 3, 4)], [0, 3, 6])
        self.assertEqual(hall.shape_of(3), ((("number", 5),),))
        self.assertEqual(hall.phase(), "idle")
        self.assertEqual(hall.colours(), ("white",) * 3)

    def test_things_are_slid_even_if_the_sweep_alone_made_room(self):
        hall = row_of_things(12, 1, 1, 1, 1)
        let_go(hall, 0)
        hall.make(0, 1)
        self.assertEqual([hall.place_of(hand) for hand in (1, 2, 3, 0)], [0, 3, 6, 9])

    def test_a_sweep_that_goes_on_is_done_and_a_whole_one_too(self):
        hall = row_of_things(12, 1, 1, 1, 1)
        hall.begin()
        let_go(hall, 0, 2)
        hall.make(0, 2)
        self.assertEqual(hall.blocks(), ((0, 3, 1), (3, 3, 1), (6, 4, 1), (10, 2, 0)))
        self.assertEqual(hall.phase(), "idle")
        self.assertEqual(hall.colours(), ("white",) * 3)
        self.assertIsNone(hall.finger())

    def test_the_whole_sweep_is_made_even_if_the_sweep_going_on_made_room(self):
        hall = row_of_things(12, 1, 1, 1, 1)
        let_go(hall, 0)
        hall.begin()
        let_go(hall, 3)
        hall.make(0, 1)
        self.assertEqual(hall.blocks(), ((0, 3, 1), (3, 3, 1), (6, 3, 1), (9, 3, 0)))

    def test_a_sweep_that_already_sweeps_is_done_first(self):
        hall = row_of_things(12, 1, 1, 1, 1)
        let_go(hall, 0)
        hall.begin()
        hall.step(4)
        self.assertEqual((hall.phase(), hall.finger()), ("sweep", 3))
        let_go(hall, 1, 2)
        hall.make(0, 3)
        self.assertEqual(hall.blocks(), ((0, 3, 1), (3, 5, 1), (8, 4, 0)))
        self.assertEqual((hall.place_of(3), hall.place_of(0)), (0, 3))

    def test_a_slide_alone_may_make_room(self):
        hall = row_of_things(12, 1, 1, 1, 1)
        sweep_away(hall, 0, 2)
        hall.make(0, 4)
        self.assertEqual(hall.place_of(0), 6)

    def test_what_the_hand_held_counts_still(self):
        hall = row_of_things(5, 3)
        with self.assertRaises(NoRoom):
            hall.make(0, 0)
        self.assertEqual(hall.value_of(0), ("thing", 3))
        let_go(hall, 0)
        hall.make(0, 3)
        self.assertEqual(hall.place_of(0), 0)

    def full_halls_in_each_phase(self):
        """Hand 1 alone holds a thing, and that one another; the other two are let go as late as can be."""
        for parts, phase in ((None, "idle"), (0, "mark"), (3, "mark"), (4, "sweep"), (7, "sweep")):
            hall = row_of_things(12, 1, 1, 1, 1)
            hall.store(1, 0, 3)
            if parts is not None:
                hall.begin()
                hall.step(parts)
            self.assertEqual(hall.phase(), phase)
            let_go(hall, 0, 2, 3)
            yield hall

    def test_room_is_made_in_each_phase(self):
        for hall in self.full_halls_in_each_phase():
            self.assertIsNone(hall.make(7, 4))
            self.assertEqual(hall.blocks(), ((0, 3, 1), (3, 3, 1), (6, 6, 1)))
            self.assertEqual((hall.place_of(1), hall.place_of(7)), (0, 6))
            self.assertEqual(hall.shape_of(1), ((("thing", 1),), (("number", 0),)))
            self.assertEqual(hall.shape_of(7), ((("number", 0),) * 4,))
            self.assertEqual((hall.phase(), hall.finger(), hall.colours()), ("idle", None, ("white",) * 3))

    def test_no_room_in_each_phase(self):
        for hall in self.full_halls_in_each_phase():
            with self.assertRaises(NoRoom):
                hall.make(7, 5)
            self.assertEqual(hall.blocks(), ((0, 3, 1), (3, 3, 1), (6, 6, 0)))
            self.assertEqual(hall.shape_of(1), ((("thing", 1),), (("number", 0),)))
            self.assertEqual(hall.value_of(7), ("number", 0))
            self.assertEqual((hall.phase(), hall.finger(), hall.colours()), ("idle", None, ("white",) * 2))

    def test_the_greatest_hall_just_full(self):
        hall = chain_of_things(200, 6, 25)
        before = told(hall)
        for many in range(7):
            with self.assertRaises(NoRoom):
                hall.make(7, many)
            self.assertEqual(told(hall), before)
        let_go(hall, 0)
        hall.make(7, 6)
        self.assertEqual(hall.blocks(), ((0, 8, 1), (8, 192, 0)))

    def test_just_room_and_one_word_too_few(self):
        for many in range(1, 7):
            hall = row_of_things(4 + many, 0)
            hall.make(1, many)
            self.assertEqual(hall.place_of(1), 2)
            hall = row_of_things(3 + many, 0)
            with self.assertRaises(NoRoom):
                hall.make(1, many)
            self.assertEqual(hall.value_of(1), ("number", 0))

    def test_no_room_where_a_thing_is_greater_than_the_hall(self):
        hall = Hall(4)
        with self.assertRaises(NoRoom) as caught:
            hall.make(0, 3)
        self.assertIs(type(caught.exception), NoRoom)
        self.assertEqual(hall.blocks(), ((0, 4, 0),))
        self.assertEqual(hall.value_of(0), ("number", 0))

    def test_what_was_done_by_a_refusal_stays(self):
        hall = row_of_things(12, 1, 1, 1, 1)
        hall.begin()
        let_go(hall, 0, 2)
        hall.number(4, 9)
        with self.assertRaises(NoRoom):
            hall.make(4, 5)
        self.assertEqual(hall.blocks(), ((0, 3, 1), (3, 3, 1), (6, 6, 0)))
        self.assertEqual(hall.value_of(4), ("number", 9))
        self.assertEqual(hall.phase(), "idle")
        self.assertEqual(hall.colours(), ("white",) * 2)

    def test_a_free_place_leaves_all_as_it_is(self):
        hall = row_of_things(12, 1, 1, 1)
        let_go(hall, 0, 1)
        hall.begin()
        hall.make(5, 1)
        self.assertEqual(hall.phase(), "mark")
        self.assertEqual(hall.blocks(), ((0, 3, 1), (3, 3, 1), (6, 3, 1), (9, 3, 1)))


class Slides(unittest.TestCase):
    """[2.3], [0.2] (e)"""

    def test_things_slide_towards_0_in_their_order_without_a_gap(self):
        hall = row_of_things(40, 1, 6, 0, 3, 2)
        sweep_away(hall, 0, 2)
        self.assertIsNone(hall.slide())
        self.assertEqual(hall.blocks(), ((0, 8, 1), (8, 5, 1), (13, 4, 1), (17, 23, 0)))
        self.assertEqual([hall.place_of(hand) for hand in (1, 3, 4)], [0, 8, 13])

    def test_the_order_is_that_of_places_not_of_making(self):
        hall = row_of_things(20, 1, 1, 1)
        sweep_away(hall, 0)
        hall.make(0, 0)
        hall.slide()
        self.assertEqual([hall.place_of(hand) for hand in (0, 1, 2)], [0, 2, 5])

    def test_fields_and_hands_hold_on_to_what_was_slid(self):
        hall = row_of_things(40, 1, 2, 1)
        hall.store(1, 0, 2)
        hall.store(2, 0, 1)
        hall.number(7, 5)
        hall.store(1, 1, 7)
        shape = hall.shape_of(1)
        sweep_away(hall, 0)
        hall.slide()
        self.assertEqual(hall.shape_of(1), shape)
        hall.load(3, 1, 0)
        self.assertTrue(hall.alike(3, 2))
        self.assertEqual(hall.place_of(3), 4)

    def test_things_that_no_hand_comes_to_are_slid_too(self):
        hall = row_of_things(20, 1, 2, 3)
        sweep_away(hall, 0)
        let_go(hall, 1)
        hall.slide()
        self.assertEqual(hall.blocks(), ((0, 4, 1), (4, 5, 1), (9, 11, 0)))

    def test_without_things_or_gaps_nothing_changes(self):
        for manies in ((), (0,), (1, 2)):
            hall = row_of_things(20, *manies)
            before = told(hall)
            hall.slide()
            self.assertEqual(told(hall), before)

    def test_not_now_where_a_sweep_goes_on(self):
        hall = row_of_things(20, 1, 2)
        sweep_away(hall, 0)
        hall.begin()
        for phase in ("mark", "sweep"):
            self.assertEqual(hall.phase(), phase)
            check_refused(self, NotNow, hall, hall.slide)
            hall.step(1)
        hall.slide()
        self.assertEqual(hall.blocks(), ((0, 4, 1), (4, 16, 0)))


if __name__ == "__main__":
    unittest.main()
