"""[3.1] to [3.3]: the sweeper, and what is stored and made while it works."""

import unittest

from greyhall.errors import NotNow
from greyhall.halls import Hall
from helper import check_refused, let_go, row_of_things, sweep_away, told


class Begins(unittest.TestCase):
    """[3.1]"""

    def test_without_a_sweep_all_are_white(self):
        hall = row_of_things(20, 1, 2, 0)
        self.assertEqual(hall.colours(), ("white",) * 3)
        self.assertEqual(hall.phase(), "idle")
        self.assertIsNone(hall.finger())

    def test_each_thing_that_a_hand_holds_is_grey(self):
        hall = row_of_things(30, 1, 0, 0, 0, 0, 0, 0, 0)
        hall.copy(6, 7)
        hall.store(0, 0, 3)
        let_go(hall, 2, 3)
        self.assertIsNone(hall.begin())
        expected = ("grey", "grey", "white", "white", "grey", "grey", "white", "grey")
        self.assertEqual(hall.colours(), expected)
        self.assertEqual(hall.phase(), "mark")
        self.assertIsNone(hall.finger())

    def test_not_now_where_one_goes_on(self):
        hall = row_of_things(20, 1, 2)
        hall.begin()
        for phase in ("mark", "mark", "sweep", "sweep"):
            self.assertEqual(hall.phase(), phase)
            check_refused(self, NotNow, hall, hall.begin)
            hall.step(1)
        self.assertEqual(hall.phase(), "idle")
        hall.begin()

    def test_with_no_thing_held_it_sweeps_at_once(self):
        hall = row_of_things(20, 1, 2)
        let_go(hall, 0, 1)
        hall.begin()
        self.assertEqual(hall.phase(), "sweep")
        self.assertEqual(hall.finger(), 0)
        self.assertEqual(hall.finish(), 2)
        self.assertEqual(hall.blocks(), ((0, 20, 0),))

    def test_with_no_thing_there_it_is_done_at_once(self):
        hall = Hall(20)
        hall.begin()
        self.assertEqual(hall.phase(), "idle")
        self.assertIsNone(hall.finger())
        hall.begin()
        self.assertEqual(hall.finish(), 0)


class Parts(unittest.TestCase):
    """[3.2], [3.3], [0.2] (c)"""

    def test_a_whole_sweep_part_by_part(self):
        hall = row_of_things(30, 2, 1, 0, 3, 1)
        hall.store(3, 1, 0)
        hall.store(3, 0, 2)
        hall.store(1, 0, 4)
        let_go(hall, 0, 1, 2, 4)
        hall.begin()
        seen = []
        while hall.phase() != "idle":
            seen.append((hall.phase(), hall.finger(), hall.colours()))
            self.assertEqual(hall.step(1), 1)
        self.assertEqual(seen, [
            ("mark", None, ("white", "white", "white", "grey", "white")),
            ("mark", None, ("grey", "white", "grey", "black", "white")),
            ("mark", None, ("black", "white", "grey", "black", "white")),
            ("sweep", 0, ("black", "white", "black", "black", "white")),
            ("sweep", 4, ("white", "white", "black", "black", "white")),
            ("sweep", 7, ("white", "black", "black", "white")),
            ("sweep", 9, ("white", "white", "black", "white")),
            ("sweep", 14, ("white", "white", "white", "white")),
        ])
        self.assertEqual(hall.blocks(), ((0, 4, 1), (4, 3, 0), (7, 2, 1), (9, 5, 1), (14, 16, 0)))
        self.assertEqual(hall.colours(), ("white",) * 3)
        self.assertIsNone(hall.finger())

    def test_the_grey_thing_of_least_place_comes_first(self):
        hall = row_of_things(30, 1, 1, 1)
        hall.store(1, 0, 0)
        let_go(hall, 0)
        hall.begin()
        self.assertEqual(hall.colours(), ("white", "grey", "grey"))
        hall.step(1)
        self.assertEqual(hall.colours(), ("grey", "black", "grey"))
        hall.step(1)
        self.assertEqual(hall.colours(), ("black", "black", "grey"))

    def test_a_part_greys_white_things_alone(self):
        hall = row_of_things(30, 3, 1, 0)
        for field in range(3):
            hall.store(0, field, field)
        hall.store(1, 0, 0)
        let_go(hall, 2)
        hall.begin()
        hall.step(1)
        self.assertEqual(hall.colours(), ("black", "grey", "grey"))
        hall.step(1)
        self.assertEqual(hall.colours(), ("black", "black", "grey"))

    def test_step_tells_the_parts_done(self):
        hall = row_of_things(30, 1, 1, 1)
        let_go(hall, 1)
        self.assertEqual(hall.step(3), 0)
        hall.begin()
        self.assertEqual(hall.step(1), 1)
        self.assertEqual(hall.step(3), 3)
        self.assertEqual(hall.phase(), "sweep")
        self.assertEqual(hall.step(100), 1)
        self.assertEqual(hall.phase(), "idle")
        self.assertEqual(hall.step(100), 0)

    def test_step_0_does_nothing(self):
        hall = row_of_things(30, 1, 1)
        for _ in range(5):
            before = told(hall)
            self.assertEqual(hall.step(0), 0)
            self.assertEqual(told(hall), before)
            if hall.phase() == "idle":
                hall.begin()
            hall.step(1)

    def test_the_changes_are_no_parts_and_made_at_once(self):
        hall = row_of_things(30, 1)
        hall.begin()
        self.assertEqual(hall.step(1), 1)
        self.assertEqual((hall.phase(), hall.finger()), ("sweep", 0))
        self.assertEqual(hall.step(1), 1)
        self.assertEqual((hall.phase(), hall.finger()), ("idle", None))

    def test_finish_tells_the_parts_done(self):
        hall = row_of_things(30, 1, 1, 1)
        let_go(hall, 1)
        self.assertEqual(hall.finish(), 0)
        hall.begin()
        self.assertEqual(hall.finish(), 5)
        self.assertEqual(hall.phase(), "idle")
        hall.begin()
        hall.step(1)
        self.assertEqual(hall.finish(), 3)

    def test_one_step_goes_from_marking_to_sweeping(self):
        hall = row_of_things(30, 1, 1)
        hall.begin()
        self.assertEqual(hall.step(3), 3)
        self.assertEqual((hall.phase(), hall.finger()), ("sweep", 3))

    def test_the_finger_passes_gaps(self):
        hall = row_of_things(30, 1, 4, 1)
        sweep_away(hall, 1)
        hall.begin()
        hall.step(3)
        self.assertEqual(hall.finger(), 3)
        hall.step(1)
        self.assertEqual(hall.phase(), "idle")

    def test_rings_that_no_hand_comes_to_are_taken_away(self):
        hall = row_of_things(30, 1, 1, 1)
        hall.store(0, 0, 1)
        hall.store(1, 0, 0)
        sweep_away(hall, 0, 1)
        self.assertEqual(hall.blocks(), ((0, 6, 0), (6, 3, 1), (9, 21, 0)))


class StoresDuringASweep(unittest.TestCase):
    """[3.1], [0.2] (b)"""

    def chain(self):
        """Hand 0 holds a thing that holds a second one, which holds a third."""
        hall = row_of_things(30, 1, 1, 1)
        hall.store(0, 0, 1)
        hall.store(1, 0, 2)
        let_go(hall, 1, 2)
        return hall

    def test_what_a_store_puts_out_of_a_field_is_grey(self):
        hall = self.chain()
        hall.begin()
        self.assertEqual(hall.colours(), ("grey", "white", "white"))
        hall.store(0, 0, 7)
        self.assertEqual(hall.colours(), ("grey", "grey", "white"))

    def test_a_loaded_thing_outlives_the_store_over_it(self):
        hall = self.chain()
        hall.begin()
        hall.load(1, 0, 0)
        hall.store(0, 0, 7)
        hall.finish()
        self.assertEqual(hall.shape_of(1), ((("thing", 1),), (("number", 0),)))
        self.assertEqual(hall.blocks(), ((0, 3, 1), (3, 3, 1), (6, 3, 1), (9, 21, 0)))

    def test_a_thing_hidden_in_a_black_one_outlives_the_sweep(self):
        hall = self.chain()
        hall.make(5, 1)
        hall.begin()
        hall.make(4, 1)
        hall.load(1, 0, 0)
        hall.store(4, 0, 1)
        hall.store(0, 0, 7)
        hall.number(1, 0)
        hall.finish()
        self.assertEqual(hall.shape_of(4), ((("thing", 1),), (("thing", 2),), (("number", 0),)))

    def test_grey_and_black_things_stay_as_they_are(self):
        hall = row_of_things(30, 2, 1, 1)
        hall.store(2, 0, 0)
        hall.store(0, 0, 2)
        hall.begin()
        hall.step(1)
        self.assertEqual(hall.colours(), ("black", "grey", "grey"))
        hall.store(0, 0, 7)
        self.assertEqual(hall.colours(), ("black", "grey", "grey"))
        hall.store(2, 0, 7)
        self.assertEqual(hall.colours(), ("black", "grey", "grey"))

    def test_what_is_stored_is_not_made_grey(self):
        hall = self.chain()
        hall.begin()
        hall.load(1, 0, 0)
        hall.load(2, 1, 0)
        hall.make(3, 1)
        hall.store(3, 0, 2)
        self.assertEqual(hall.colours(), ("grey", "white", "white", "black"))

    def test_hands_and_loads_make_nothing_grey(self):
        hall = self.chain()
        hall.begin()
        hall.load(1, 0, 0)
        hall.copy(2, 1)
        hall.number(1, 0)
        self.assertEqual(hall.colours(), ("grey", "white", "white"))

    def test_a_store_of_the_same_thing_makes_it_grey_too(self):
        hall = self.chain()
        hall.begin()
        hall.load(1, 0, 0)
        hall.store(0, 0, 1)
        self.assertEqual(hall.colours(), ("grey", "grey", "white"))

    def test_without_marking_a_store_makes_nothing_grey(self):
        hall = row_of_things(30, 1, 1, 1)
        hall.store(1, 0, 2)
        hall.store(1, 0, 7)
        self.assertEqual(hall.colours(), ("white",) * 3)
        hall.store(1, 0, 0)
        hall.begin()
        hall.step(4)
        self.assertEqual((hall.phase(), hall.colours()), ("sweep", ("white", "black", "black")))
        hall.store(1, 0, 7)
        self.assertEqual((hall.phase(), hall.colours()), ("sweep", ("white", "black", "black")))

    def test_what_is_let_go_during_a_sweep_goes_with_the_next(self):
        hall = self.chain()
        hall.begin()
        hall.store(0, 0, 7)
        hall.finish()
        self.assertEqual(len(hall.colours()), 3)
        hall.begin()
        hall.finish()
        self.assertEqual(hall.blocks(), ((0, 3, 1), (3, 27, 0)))


class MakesDuringASweep(unittest.TestCase):
    """[3.1], [3.2], [0.2] (b)"""

    def test_while_it_marks_a_made_thing_is_black(self):
        hall = row_of_things(30, 1, 1)
        sweep_away(hall, 0)
        hall.begin()
        hall.make(2, 1)
        hall.make(3, 1)
        self.assertEqual(hall.colours(), ("black", "grey", "black"))
        self.assertEqual(hall.phase(), "mark")

    def test_what_is_made_while_it_marks_outlives_the_sweep(self):
        hall = row_of_things(30, 1)
        hall.begin()
        hall.make(2, 1)
        let_go(hall, 2)
        hall.finish()
        self.assertEqual(hall.blocks(), ((0, 3, 1), (3, 3, 1), (6, 24, 0)))

    def swept_up_to_5(self):
        """Free from 0 to 2 and from 5 to 10, the finger at 5, and a thing behind the gap."""
        hall = row_of_things(30, 0, 1, 3, 0)
        sweep_away(hall, 0, 2)
        hall.begin()
        hall.step(3)
        self.assertEqual((hall.phase(), hall.finger()), ("sweep", 5))
        self.assertEqual(hall.blocks(), ((0, 2, 0), (2, 3, 1), (5, 5, 0), (10, 2, 1), (12, 18, 0)))
        return hall

    def test_before_the_finger_a_made_thing_is_white(self):
        hall = self.swept_up_to_5()
        hall.make(4, 0)
        self.assertEqual(hall.place_of(4), 0)
        self.assertEqual(hall.colours(), ("white", "white", "black"))
        self.assertEqual(hall.finish(), 1)
        self.assertEqual(hall.place_of(4), 0)

    def test_at_the_finger_a_made_thing_is_black(self):
        hall = self.swept_up_to_5()
        hall.make(4, 1)
        self.assertEqual(hall.place_of(4), 5)
        self.assertEqual(hall.colours(), ("white", "black", "black"))
        self.assertEqual(hall.step(1), 1)
        self.assertEqual(hall.finger(), 8)
        self.assertEqual(hall.colours(), ("white", "white", "black"))

    def test_behind_the_finger_a_made_thing_is_black(self):
        hall = self.swept_up_to_5()
        hall.make(4, 5)
        self.assertEqual(hall.place_of(4), 12)
        self.assertEqual(hall.colours(), ("white", "black", "black"))
        let_go(hall, 4)
        self.assertEqual(hall.finish(), 2)
        self.assertEqual(hall.blocks()[-2], (12, 7, 1))

    def test_a_thing_that_begins_before_the_finger_and_ends_behind_it_is_white(self):
        hall = row_of_things(30, 1, 2, 0)
        sweep_away(hall, 1)
        let_go(hall, 0)
        hall.begin()
        hall.step(2)
        self.assertEqual((hall.phase(), hall.finger()), ("sweep", 3))
        hall.make(4, 4)
        self.assertEqual(hall.place_of(4), 0)
        self.assertEqual(hall.colours(), ("white", "black"))
        self.assertEqual(hall.step(1), 1)
        self.assertEqual(hall.blocks(), ((0, 6, 1), (6, 1, 0), (7, 2, 1), (9, 21, 0)))
        self.assertEqual(hall.phase(), "idle")


if __name__ == "__main__":
    unittest.main()
