import unittest

from greyhall.errors import NoRoom, NotNow
from helper import let_go, new_hall, row_of_things, sweep_away, told


class Slides(unittest.TestCase):
    """[2.3], [0.2] (e)"""

    def test_things_slide_towards_0_in_their_order_without_a_gap(self):
        memory, sweeper = row_of_things(40, 1, 6, 0, 3, 2)
        sweep_away(memory, sweeper, 0, 2)
        self.assertIsNone(sweeper.slide())
        self.assertEqual(memory.blocks(), ((0, 8, 1), (8, 5, 1), (13, 4, 1), (17, 23, 0)))
        self.assertEqual([memory.place_of(hand) for hand in (1, 3, 4)], [0, 8, 13])

    def test_the_order_is_that_of_places_not_of_making(self):
        memory, sweeper = row_of_things(20, 1, 1, 1)
        sweep_away(memory, sweeper, 0)
        sweeper.make(0, 0)
        sweeper.slide()
        self.assertEqual([memory.place_of(hand) for hand in (0, 1, 2)], [0, 2, 5])

    def test_fields_and_hands_hold_on_to_what_was_slid(self):
        memory, sweeper = row_of_things(40, 1, 2, 1)
        sweeper.store(1, 0, 2)
        sweeper.store(2, 0, 1)
        memory.number(7, 5)
        sweeper.store(1, 1, 7)
        shape = memory.shape_of(1)
        sweep_away(memory, sweeper, 0)
        sweeper.slide()
        self.assertEqual(memory.shape_of(1), shape)
        memory.load(3, 1, 0)
        self.assertTrue(memory.alike(3, 2))
        self.assertEqual(memory.place_of(3), 4)

    def test_things_that_no_hand_comes_to_are_slid_too(self):
        memory, sweeper = row_of_things(20, 1, 2, 3)
        sweep_away(memory, sweeper, 0)
        let_go(memory, 1)
        sweeper.slide()
        self.assertEqual(memory.blocks(), ((0, 4, 1), (4, 5, 1), (9, 11, 0)))

    def test_without_things_or_gaps_nothing_changes(self):
        for manies in ((), (0,), (1, 2)):
            memory, sweeper = row_of_things(20, *manies)
            before = told(memory, sweeper)
            sweeper.slide()
            self.assertEqual(told(memory, sweeper), before)

    def test_not_now_where_a_sweep_goes_on(self):
        memory, sweeper = row_of_things(20, 1, 2)
        sweep_away(memory, sweeper, 0)
        sweeper.begin()
        for phase in ("mark", "sweep"):
            before = told(memory, sweeper)
            self.assertEqual(sweeper.phase(), phase)
            with self.assertRaises(NotNow):
                sweeper.slide()
            self.assertEqual(told(memory, sweeper), before)
            sweeper.step(1)
        sweeper.slide()
        self.assertEqual(memory.blocks(), ((0, 4, 1), (4, 16, 0)))


class Begins(unittest.TestCase):
    """[3.1]"""

    def test_without_a_sweep_all_are_white(self):
        memory, sweeper = row_of_things(20, 1, 2, 0)
        self.assertEqual(sweeper.colours(), ("white",) * 3)
        self.assertEqual(sweeper.phase(), "idle")
        self.assertIsNone(sweeper.finger())

    def test_each_thing_that_a_hand_holds_is_grey(self):
        memory, sweeper = row_of_things(30, 1, 0, 0, 0, 0, 0, 0, 0)
        memory.copy(6, 7)
        sweeper.store(0, 0, 3)
        let_go(memory, 2, 3)
        self.assertIsNone(sweeper.begin())
        expected = ("grey", "grey", "white", "white", "grey", "grey", "white", "grey")
        self.assertEqual(sweeper.colours(), expected)
        self.assertEqual(sweeper.phase(), "mark")
        self.assertIsNone(sweeper.finger())

    def test_not_now_where_one_goes_on(self):
        memory, sweeper = row_of_things(20, 1, 2)
        sweeper.begin()
        for _ in range(4):
            before = told(memory, sweeper)
            with self.assertRaises(NotNow):
                sweeper.begin()
            self.assertEqual(told(memory, sweeper), before)
            sweeper.step(1)
        self.assertEqual(sweeper.phase(), "idle")
        sweeper.begin()

    def test_with_no_thing_held_it_sweeps_at_once(self):
        memory, sweeper = row_of_things(20, 1, 2)
        let_go(memory, 0, 1)
        sweeper.begin()
        self.assertEqual(sweeper.phase(), "sweep")
        self.assertEqual(sweeper.finger(), 0)
        self.assertEqual(sweeper.finish(), 2)
        self.assertEqual(memory.blocks(), ((0, 20, 0),))

    def test_with_no_thing_there_it_is_done_at_once(self):
        memory, sweeper = new_hall(20)
        sweeper.begin()
        self.assertEqual(sweeper.phase(), "idle")
        self.assertIsNone(sweeper.finger())
        sweeper.begin()
        self.assertEqual(sweeper.finish(), 0)


class Parts(unittest.TestCase):
    """[3.2], [3.3], [0.2] (c)"""

    def test_a_whole_sweep_part_by_part(self):
        memory, sweeper = row_of_things(30, 2, 1, 0, 3, 1)
        sweeper.store(3, 1, 0)
        sweeper.store(3, 0, 2)
        sweeper.store(1, 0, 4)
        let_go(memory, 0, 1, 2, 4)
        sweeper.begin()
        seen = []
        while sweeper.phase() != "idle":
            seen.append((sweeper.phase(), sweeper.finger(), sweeper.colours()))
            self.assertEqual(sweeper.step(1), 1)
        self.assertEqual(seen, [
            ("mark", None, ("white", "white", "white", "grey", "white")),
            ("mark", None, ("grey", "white", "grey", "black", "white")),
            ("mark", None, ("black", "white", "grey", "black", "white")),
            ("sweep", 0, ("black", "white", "black", "black", "white")),
            ("sweep", 4, ("white", "white", "black", "black", "white")),
            ("sweep", 7, ("white", "black", "black", "white")),
            ("sweep", 9, ("white", "white", "black", "white")),
            ("sweep", 14, ("white", "white", "white", "white")),
        ])
        self.assertEqual(memory.blocks(), ((0, 4, 1), (4, 3, 0), (7, 2, 1), (9, 5, 1), (14, 16, 0)))
        self.assertEqual(sweeper.colours(), ("white",) * 3)
        self.assertIsNone(sweeper.finger())

    def test_the_grey_thing_of_least_place_comes_first(self):
        memory, sweeper = row_of_things(30, 1, 1, 1)
        sweeper.store(1, 0, 0)
        let_go(memory, 0)
        sweeper.begin()
        self.assertEqual(sweeper.colours(), ("white", "grey", "grey"))
        sweeper.step(1)
        self.assertEqual(sweeper.colours(), ("grey", "black", "grey"))
        sweeper.step(1)
        self.assertEqual(sweeper.colours(), ("black", "black", "grey"))

    def test_a_part_greys_white_things_alone(self):
        memory, sweeper = row_of_things(30, 3, 1, 0)
        for field in range(3):
            sweeper.store(0, field, field)
        sweeper.store(1, 0, 0)
        let_go(memory, 2)
        sweeper.begin()
        sweeper.step(1)
        self.assertEqual(sweeper.colours(), ("black", "grey", "grey"))
        sweeper.step(1)
        self.assertEqual(sweeper.colours(), ("black", "black", "grey"))

    def test_step_tells_the_parts_done(self):
        memory, sweeper = row_of_things(30, 1, 1, 1)
        let_go(memory, 1)
        self.assertEqual(sweeper.step(3), 0)
        sweeper.begin()
        self.assertEqual(sweeper.step(1), 1)
        self.assertEqual(sweeper.step(3), 3)
        self.assertEqual(sweeper.phase(), "sweep")
        self.assertEqual(sweeper.step(100), 1)
        self.assertEqual(sweeper.phase(), "idle")
        self.assertEqual(sweeper.step(100), 0)

    def test_step_0_does_nothing(self):
        memory, sweeper = row_of_things(30, 1, 1)
        for _ in range(5):
            before = told(memory, sweeper)
            self.assertEqual(sweeper.step(0), 0)
            self.assertEqual(told(memory, sweeper), before)
            if sweeper.phase() == "idle":
                sweeper.begin()
            sweeper.step(1)

    def test_the_changes_are_no_parts_and_made_at_once(self):
        memory, sweeper = row_of_things(30, 1)
        sweeper.begin()
        self.assertEqual(sweeper.step(1), 1)
        self.assertEqual((sweeper.phase(), sweeper.finger()), ("sweep", 0))
        self.assertEqual(sweeper.step(1), 1)
        self.assertEqual((sweeper.phase(), sweeper.finger()), ("idle", None))

    def test_finish_tells_the_parts_done(self):
        memory, sweeper = row_of_things(30, 1, 1, 1)
        let_go(memory, 1)
        self.assertEqual(sweeper.finish(), 0)
        sweeper.begin()
        self.assertEqual(sweeper.finish(), 5)
        self.assertEqual(sweeper.phase(), "idle")
        sweeper.begin()
        sweeper.step(1)
        self.assertEqual(sweeper.finish(), 3)

    def test_one_step_goes_from_marking_to_sweeping(self):
        memory, sweeper = row_of_things(30, 1, 1)
        sweeper.begin()
        self.assertEqual(sweeper.step(3), 3)
        self.assertEqual((sweeper.phase(), sweeper.finger()), ("sweep", 3))

    def test_the_finger_passes_gaps(self):
        memory, sweeper = row_of_things(30, 1, 4, 1)
        sweep_away(memory, sweeper, 1)
        sweeper.begin()
        sweeper.step(3)
        self.assertEqual(sweeper.finger(), 3)
        sweeper.step(1)
        self.assertEqual(sweeper.phase(), "idle")

    def test_rings_that_no_hand_comes_to_are_taken_away(self):
        memory, sweeper = row_of_things(30, 1, 1, 1)
        sweeper.store(0, 0, 1)
        sweeper.store(1, 0, 0)
        sweep_away(memory, sweeper, 0, 1)
        self.assertEqual(memory.blocks(), ((0, 6, 0), (6, 3, 1), (9, 21, 0)))


class StoresDuringASweep(unittest.TestCase):
    """[3.1], [0.2] (b)"""

    def chain(self):
        """Hand 0 holds a thing that holds a second one, which holds a third."""
        memory, sweeper = row_of_things(30, 1, 1, 1)
        sweeper.store(0, 0, 1)
        sweeper.store(1, 0, 2)
        let_go(memory, 1, 2)
        return memory, sweeper

    def test_what_a_store_puts_out_of_a_field_is_grey(self):
        memory, sweeper = self.chain()
        sweeper.begin()
        self.assertEqual(sweeper.colours(), ("grey", "white", "white"))
        sweeper.store(0, 0, 7)
        self.assertEqual(sweeper.colours(), ("grey", "grey", "white"))

    def test_a_loaded_thing_outlives_the_store_over_it(self):
        memory, sweeper = self.chain()
        sweeper.begin()
        memory.load(1, 0, 0)
        sweeper.store(0, 0, 7)
        sweeper.finish()
        self.assertEqual(memory.shape_of(1), ((("thing", 1),), (("number", 0),)))
        self.assertEqual(memory.blocks(), ((0, 3, 1), (3, 3, 1), (6, 3, 1), (9, 21, 0)))

    def test_a_thing_hidden_in_a_black_one_outlives_the_sweep(self):
        memory, sweeper = self.chain()
        sweeper.make(5, 1)
        sweeper.begin()
        sweeper.make(4, 1)
        memory.load(1, 0, 0)
        sweeper.store(4, 0, 1)
        sweeper.store(0, 0, 7)
        memory.number(1, 0)
        sweeper.finish()
        self.assertEqual(memory.shape_of(4), ((("thing", 1),), (("thing", 2),), (("number", 0),)))

    def test_grey_and_black_things_stay_as_they_are(self):
        memory, sweeper = row_of_things(30, 2, 1, 1)
        sweeper.store(2, 0, 0)
        sweeper.store(0, 0, 2)
        sweeper.begin()
        sweeper.step(1)
        self.assertEqual(sweeper.colours(), ("black", "grey", "grey"))
        sweeper.store(0, 0, 7)
        self.assertEqual(sweeper.colours(), ("black", "grey", "grey"))
        sweeper.store(2, 0, 7)
        self.assertEqual(sweeper.colours(), ("black", "grey", "grey"))

    def test_what_is_stored_is_not_made_grey(self):
        memory, sweeper = self.chain()
        sweeper.begin()
        memory.load(1, 0, 0)
        memory.load(2, 1, 0)
        sweeper.make(3, 1)
        sweeper.store(3, 0, 2)
        self.assertEqual(sweeper.colours(), ("grey", "white", "white", "black"))

    def test_hands_and_loads_make_nothing_grey(self):
        memory, sweeper = self.chain()
        sweeper.begin()
        memory.load(1, 0, 0)
        memory.copy(2, 1)
        memory.number(1, 0)
        self.assertEqual(sweeper.colours(), ("grey", "white", "white"))

    def test_a_store_of_the_same_thing_makes_it_grey_too(self):
        memory, sweeper = self.chain()
        sweeper.begin()
        memory.load(1, 0, 0)
        sweeper.store(0, 0, 1)
        self.assertEqual(sweeper.colours(), ("grey", "grey", "white"))

    def test_without_marking_a_store_makes_nothing_grey(self):
        memory, sweeper = row_of_things(30, 1, 1, 1)
        sweeper.store(1, 0, 2)
        sweeper.store(1, 0, 7)
        self.assertEqual(sweeper.colours(), ("white",) * 3)
        sweeper.store(1, 0, 0)
        sweeper.begin()
        sweeper.step(4)
        self.assertEqual((sweeper.phase(), sweeper.colours()), ("sweep", ("white", "black", "black")))
        sweeper.store(1, 0, 7)
        self.assertEqual((sweeper.phase(), sweeper.colours()), ("sweep", ("white", "black", "black")))

    def test_what_is_let_go_during_a_sweep_goes_with_the_next(self):
        memory, sweeper = self.chain()
        sweeper.begin()
        sweeper.store(0, 0, 7)
        sweeper.finish()
        self.assertEqual(len(sweeper.colours()), 3)
        sweeper.begin()
        sweeper.finish()
        self.assertEqual(memory.blocks(), ((0, 3, 1), (3, 27, 0)))


class MakesDuringASweep(unittest.TestCase):
    """[3.1], [3.2], [0.2] (b)"""

    def test_while_it_marks_a_made_thing_is_black(self):
        memory, sweeper = row_of_things(30, 1, 1)
        sweep_away(memory, sweeper, 0)
        sweeper.begin()
        sweeper.make(2, 1)
        sweeper.make(3, 1)
        self.assertEqual(sweeper.colours(), ("black", "grey", "black"))
        self.assertEqual(sweeper.phase(), "mark")

    def test_what_is_made_while_it_marks_outlives_the_sweep(self):
        memory, sweeper = row_of_things(30, 1)
        sweeper.begin()
        sweeper.make(2, 1)
        let_go(memory, 2)
        sweeper.finish()
        self.assertEqual(memory.blocks(), ((0, 3, 1), (3, 3, 1), (6, 24, 0)))

    def swept_up_to_5(self):
        """Free from 0 to 2 and from 5 to 10, the finger at 5, and a thing behind the gap."""
        memory, sweeper = row_of_things(30, 0, 1, 3, 0)
        sweep_away(memory, sweeper, 0, 2)
        sweeper.begin()
        sweeper.step(3)
        self.assertEqual((sweeper.phase(), sweeper.finger()), ("sweep", 5))
        self.assertEqual(memory.blocks(), ((0, 2, 0), (2, 3, 1), (5, 5, 0), (10, 2, 1), (12, 18, 0)))
        return memory, sweeper

    def test_before_the_finger_a_made_thing_is_white(self):
        memory, sweeper = self.swept_up_to_5()
        sweeper.make(4, 0)
        self.assertEqual(memory.place_of(4), 0)
        self.assertEqual(sweeper.colours(), ("white", "white", "black"))
        self.assertEqual(sweeper.finish(), 1)
        self.assertEqual(memory.place_of(4), 0)

    def test_at_the_finger_a_made_thing_is_black(self):
        memory, sweeper = self.swept_up_to_5()
        sweeper.make(4, 1)
        self.assertEqual(memory.place_of(4), 5)
        self.assertEqual(sweeper.colours(), ("white", "black", "black"))
        self.assertEqual(sweeper.step(1), 1)
        self.assertEqual(sweeper.finger(), 8)
        self.assertEqual(sweeper.colours(), ("white", "white", "black"))

    def test_behind_the_finger_a_made_thing_is_black(self):
        memory, sweeper = self.swept_up_to_5()
        sweeper.make(4, 5)
        self.assertEqual(memory.place_of(4), 12)
        self.assertEqual(sweeper.colours(), ("white", "black", "black"))
        let_go(memory, 4)
        self.assertEqual(sweeper.finish(), 2)
        self.assertEqual(memory.blocks()[-2], (12, 7, 1))

    def test_a_thing_that_begins_before_the_finger_and_ends_behind_it_is_white(self):
        memory, sweeper = row_of_things(30, 1, 2, 0)
        sweep_away(memory, sweeper, 1)
        let_go(memory, 0)
        sweeper.begin()
        sweeper.step(2)
        self.assertEqual((sweeper.phase(), sweeper.finger()), ("sweep", 3))
        sweeper.make(4, 4)
        self.assertEqual(memory.place_of(4), 0)
        self.assertEqual(sweeper.colours(), ("white", "black"))
        self.assertEqual(sweeper.step(1), 1)
        self.assertEqual(memory.blocks(), ((0, 6, 1), (6, 1, 0), (7, 2, 1), (9, 21, 0)))
        self.assertEqual(sweeper.phase(), "idle")


class MakesWithoutAFreePlace(unittest.TestCase):
    """[2.1], [0.2] (d)"""

    def test_a_whole_sweep_and_a_slide_make_room_behind_the_last(self):
        memory, sweeper = row_of_things(12, 1, 1, 1, 1)
        memory.number(7, 5)
        sweeper.store(3, 0, 7)
        let_go(memory, 0, 2)
        sweeper.make(4, 4)
        self.assertEqual(memory.blocks(), ((0, 3, 1), (3, 3, 1), (6, 6, 1)))
        self.assertEqual([memory.place_of(hand) for hand in (1, 3, 4)], [0, 3, 6])
        self.assertEqual(memory.shape_of(3), ((("number", 5),),))
        self.assertEqual(sweeper.phase(), "idle")
        self.assertEqual(sweeper.colours(), ("white",) * 3)

    def test_things_are_slid_even_if_the_sweep_alone_made_room(self):
        memory, sweeper = row_of_things(12, 1, 1, 1, 1)
        let_go(memory, 0)
        sweeper.make(0, 1)
        self.assertEqual([memory.place_of(hand) for hand in (1, 2, 3, 0)], [0, 3, 6, 9])

    def test_a_sweep_that_goes_on_is_done_and_a_whole_one_too(self):
        memory, sweeper = row_of_things(12, 1, 1, 1, 1)
        sweeper.begin()
        let_go(memory, 0, 2)
        sweeper.make(0, 2)
        self.assertEqual(memory.blocks(), ((0, 3, 1), (3, 3, 1), (6, 4, 1), (10, 2, 0)))
        self.assertEqual(sweeper.phase(), "idle")
        self.assertEqual(sweeper.colours(), ("white",) * 3)
        self.assertIsNone(sweeper.finger())

    def test_the_whole_sweep_is_made_even_if_the_sweep_going_on_made_room(self):
        memory, sweeper = row_of_things(12, 1, 1, 1, 1)
        let_go(memory, 0)
        sweeper.begin()
        let_go(memory, 3)
        sweeper.make(0, 1)
        self.assertEqual(memory.blocks(), ((0, 3, 1), (3, 3, 1), (6, 3, 1), (9, 3, 0)))

    def test_a_sweep_that_already_sweeps_is_done_first(self):
        memory, sweeper = row_of_things(12, 1, 1, 1, 1)
        let_go(memory, 0)
        sweeper.begin()
        sweeper.step(4)
        self.assertEqual((sweeper.phase(), sweeper.finger()), ("sweep", 3))
        let_go(memory, 1, 2)
        sweeper.make(0, 3)
        self.assertEqual(memory.blocks(), ((0, 3, 1), (3, 5, 1), (8, 4, 0)))
        self.assertEqual((memory.place_of(3), memory.place_of(0)), (0, 3))

    def test_a_slide_alone_may_make_room(self):
        memory, sweeper = row_of_things(12, 1, 1, 1, 1)
        sweep_away(memory, sweeper, 0, 2)
        sweeper.make(0, 4)
        self.assertEqual(memory.place_of(0), 6)

    def test_what_the_hand_held_counts_still(self):
        memory, sweeper = row_of_things(5, 3)
        with self.assertRaises(NoRoom):
            sweeper.make(0, 0)
        self.assertEqual(memory.value_of(0), ("thing", 3))
        let_go(memory, 0)
        sweeper.make(0, 3)
        self.assertEqual(memory.place_of(0), 0)

    def test_just_room_and_one_word_too_few(self):
        for many in range(1, 7):
            memory, sweeper = row_of_things(4 + many, 0)
            sweeper.make(1, many)
            self.assertEqual(memory.place_of(1), 2)
            memory, sweeper = row_of_things(3 + many, 0)
            with self.assertRaises(NoRoom):
                sweeper.make(1, many)
            self.assertEqual(memory.value_of(1), ("number", 0))

    def test_no_room_where_a_thing_is_greater_than_the_hall(self):
        memory, sweeper = new_hall(4)
        with self.assertRaises(NoRoom) as caught:
            sweeper.make(0, 3)
        self.assertIs(type(caught.exception), NoRoom)
        self.assertEqual(memory.blocks(), ((0, 4, 0),))
        self.assertEqual(memory.value_of(0), ("number", 0))

    def test_what_was_done_by_a_refusal_stays(self):
        memory, sweeper = row_of_things(12, 1, 1, 1, 1)
        sweeper.begin()
        let_go(memory, 0, 2)
        memory.number(4, 9)
        with self.assertRaises(NoRoom):
            sweeper.make(4, 5)
        self.assertEqual(memory.blocks(), ((0, 3, 1), (3, 3, 1), (6, 6, 0)))
        self.assertEqual(memory.value_of(4), ("number", 9))
        self.assertEqual(sweeper.phase(), "idle")
        self.assertEqual(sweeper.colours(), ("white",) * 2)

    def test_a_free_place_leaves_all_as_it_is(self):
        memory, sweeper = row_of_things(12, 1, 1, 1)
        let_go(memory, 0, 1)
        sweeper.begin()
        sweeper.make(5, 1)
        self.assertEqual(sweeper.phase(), "mark")
        self.assertEqual(memory.blocks(), ((0, 3, 1), (3, 3, 1), (6, 3, 1), (9, 3, 1)))


if __name__ == "__main__":
    unittest.main()
