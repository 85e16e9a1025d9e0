"""[0.2]: long fixed runs of all that can be done, beside a hall without an end that keeps everything."""

import random
import unittest

from greyhall.checking import is_sound
from greyhall.errors import NoField, NoRoom, NoThing, NotNow
from greyhall.halls import Hall
from greyhall.walking import come_to
from helper import HANDS, check_refused


class EndlessThing:
    def __init__(self, many):
        self.fields = [0] * many
        self.place = None

    def words(self):
        return 2 + len(self.fields)


class EndlessHall:
    """Nothing is ever taken away or moved; a thing's place is where it is to lie in the hall under test."""

    def __init__(self):
        self.hands = [0] * 8

    def refusal(self, hand, field):
        thing = self.hands[hand]
        if not isinstance(thing, EndlessThing):
            return NoThing
        return None if field in range(len(thing.fields)) else NoField

    def found(self, start):
        found = []
        waiting = list(start)
        while waiting:
            thing = waiting.pop(0)
            if isinstance(thing, EndlessThing) and thing not in found:
                found.append(thing)
                waiting.extend(thing.fields)
        return found

    def value(self, hand):
        value = self.hands[hand]
        return ("thing", len(value.fields)) if isinstance(value, EndlessThing) else ("number", value)

    def shape(self, hand):
        found = self.found([self.hands[hand]])

        def told(value):
            return ("thing", found.index(value)) if isinstance(value, EndlessThing) else ("number", value)

        return tuple(tuple(map(told, thing.fields)) for thing in found) or ("number", self.hands[hand])

    def alike(self, hand, other):
        return isinstance(self.hands[hand], EndlessThing) and self.hands[hand] is self.hands[other]

    def reached(self):
        return self.found(self.hands)


def words(things):
    return sum(thing.words() for thing in things)


class Run:
    """Which thing lies where is kept in `lying`, by places, and compared with the blocks behind every act."""

    def __init__(self, case, seed, size):
        self.case = case
        self.choice = random.Random(seed)
        self.size = size
        self.hall = Hall(size)
        self.endless = EndlessHall()
        self.lying = []
        self.doomed = []
        self.parts_done = 0
        self.parts_due = 0
        self.seen = {"refused": 0, "room made": 0, "ended": 0, "taken away": 0, "slid": 0}

    def hand(self):
        return self.choice.randrange(8)

    def idle(self):
        return self.hall.phase() == "idle"

    def number(self):
        hand, n = self.hand(), self.choice.randrange(-9, 10)
        self.hall.number(hand, n)
        self.endless.hands[hand] = n

    def copy(self):
        hand, other = self.hand(), self.hand()
        self.hall.copy(hand, other)
        self.endless.hands[hand] = self.endless.hands[other]

    def load(self):
        hand, other, field = self.hand(), self.hand(), self.choice.randrange(-1, 6)
        refusal = self.endless.refusal(other, field)
        if refusal is not None:
            check_refused(self.case, refusal, self.hall, self.hall.load, hand, other, field)
            return
        self.hall.load(hand, other, field)
        self.endless.hands[hand] = self.endless.hands[other].fields[field]

    def store(self):
        hand, other, field = self.hand(), self.hand(), self.choice.randrange(-1, 6)
        refusal = self.endless.refusal(hand, field)
        if refusal is not None:
            check_refused(self.case, refusal, self.hall, self.hall.store, hand, field, other)
            return
        self.hall.store(hand, field, other)
        self.endless.hands[hand].fields[field] = self.endless.hands[other]

    def make(self):
        hand, thing = self.hand(), EndlessThing(self.choice.randrange(7))
        gaps = [place for place, wide, used in self.hall.blocks() if not used and wide >= thing.words()]
        if gaps:
            self.make_in_gap(hand, thing, gaps[0])
        else:
            self.make_behind_all(hand, thing)

    def make_in_gap(self, hand, thing, place):
        phase, finger = self.hall.phase(), self.hall.finger()
        self.hall.make(hand, len(thing.fields))
        self.case.assertEqual((self.hall.phase(), self.hall.finger()), (phase, finger))
        if phase == "mark" or phase == "sweep" and place >= finger:
            self.parts_due += 1
        self.lay(hand, thing, place)

    def make_behind_all(self, hand, thing):
        reached = self.endless.reached()
        self.lying = [kept for kept in self.lying if kept in reached]
        self.doomed = []
        self.slide_together()
        if words(reached) + thing.words() > self.size:
            self.seen["refused"] += 1
            self.case.assertRaises(NoRoom, self.hall.make, hand, len(thing.fields))
        else:
            self.seen["room made"] += 1
            self.hall.make(hand, len(thing.fields))
            self.lay(hand, thing, words(reached))
        self.case.assertTrue(self.idle())

    def lay(self, hand, thing, place):
        thing.place = place
        self.lying.append(thing)
        self.lying.sort(key=lambda lying: lying.place)
        self.endless.hands[hand] = thing

    def slide_together(self):
        at = 0
        for thing in self.lying:
            thing.place = at
            at += thing.words()

    def begin(self):
        if not self.idle():
            check_refused(self.case, NotNow, self.hall, self.hall.begin)
            return
        reached = self.endless.reached()
        self.doomed = [thing for thing in self.lying if thing not in reached]
        self.parts_done = 0
        self.parts_due = len(reached) + len(self.lying)
        self.hall.begin()
        self.case.assertEqual(self.idle(), self.lying == [])

    def step(self):
        n = self.choice.randrange(4)
        going_on = not self.idle()
        done = self.hall.step(n)
        self.case.assertTrue(done == n or done < n and self.idle())
        self.look_at_work(going_on, done)

    def finish(self):
        going_on = not self.idle()
        done = self.hall.finish()
        self.case.assertTrue(self.idle())
        self.look_at_work(going_on, done)

    def look_at_work(self, going_on, done):
        places = [place for place, _, used in self.hall.blocks() if used]
        gone = [thing for thing in self.lying if thing.place not in places]
        self.lying = [thing for thing in self.lying if thing.place in places]
        for thing in gone:
            self.seen["taken away"] += 1
            self.doomed.remove(thing)
        self.parts_done += done
        if not going_on:
            self.case.assertEqual(done, 0)
        elif self.idle():
            self.seen["ended"] += 1
            self.case.assertEqual(self.doomed, [])
            self.case.assertEqual(self.parts_done, self.parts_due)
        else:
            self.case.assertLess(self.parts_done, self.parts_due)

    def slide(self):
        if not self.idle():
            check_refused(self.case, NotNow, self.hall, self.hall.slide)
            return
        self.seen["slid"] += 1
        self.slide_together()
        self.hall.slide()

    def check(self):
        for hand in HANDS:
            self.case.assertEqual(self.hall.value_of(hand), self.endless.value(hand))
            self.case.assertEqual(self.hall.shape_of(hand), self.endless.shape(hand))
            for other in HANDS:
                self.case.assertIs(self.hall.alike(hand, other), self.endless.alike(hand, other))
            if isinstance(self.endless.hands[hand], EndlessThing):
                self.case.assertEqual(self.hall.place_of(hand), self.endless.hands[hand].place)
        reached = self.endless.reached()
        self.case.assertEqual(come_to(self.hall), tuple(sorted(thing.place for thing in reached)))
        self.case.assertTrue(all(thing in self.lying for thing in reached))
        self.check_blocks()
        self.check_colours()

    def check_blocks(self):
        blocks = self.hall.blocks()
        self.case.assertIs(is_sound(blocks, self.size), True)
        at = 0
        before = 1
        for place, wide, used in blocks:
            self.case.assertEqual(place, at)
            self.case.assertIn(wide, range(2, 9) if used else range(1, self.size + 1))
            self.case.assertTrue(used or before)
            before = used
            at += wide
        self.case.assertEqual(at, self.size)
        things = [(place, wide) for place, wide, used in blocks if used]
        self.case.assertEqual(things, [(thing.place, thing.words()) for thing in self.lying])

    def check_colours(self):
        phase, colours, finger = self.hall.phase(), self.hall.colours(), self.hall.finger()
        self.case.assertEqual(len(colours), len(self.lying))
        self.case.assertEqual(finger is None, phase != "sweep")
        self.case.assertEqual("grey" in colours, phase == "mark")
        if phase == "idle":
            self.case.assertNotIn("black", colours)
        if phase == "sweep":
            self.case.assertTrue(any(thing.place >= finger for thing in self.lying))
            for thing, colour in zip(self.lying, colours):
                white = thing.place < finger or thing in self.doomed
                self.case.assertEqual(colour, "white" if white else "black")

    def go(self, turns):
        doings = [self.number, self.copy, self.make, self.make, self.load, self.load, self.store, self.store]
        doings += [self.store, self.step, self.step, self.begin]
        rare = [self.slide, self.finish]
        for _ in range(turns):
            self.choice.choice(rare if self.choice.randrange(12) == 0 else doings)()
            self.check()


class LongRuns(unittest.TestCase):
    def test_halls_of_many_sizes_hold_what_an_endless_hall_would(self):
        seen = {}
        for seed, size in enumerate((4, 5, 7, 10, 16, 20, 30, 30, 40, 40, 60, 60, 100, 200)):
            with self.subTest(seed=seed, size=size):
                run = Run(self, seed, size)
                run.go(1500)
                for what in run.seen:
                    seen[what] = seen.get(what, 0) + run.seen[what]
        # A run that never came to these would promise nothing of them.
        for what in seen:
            self.assertGreater(seen[what], 50, what)


if __name__ == "__main__":
    unittest.main()
