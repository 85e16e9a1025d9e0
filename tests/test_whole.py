"""[0.2]: long fixed runs of all that can be done, beside a hall without an end that keeps everything."""

import random
import unittest

from greyhall.errors import HallError, NoField, NoRoom, NoThing
from helper import HANDS, new_hall


class EndlessThing:
    def __init__(self, many):
        self.fields = [0] * many
        self.real = None


class EndlessHall:
    """Nothing is ever taken away or moved; things are known by the objects of the hall under test."""

    def __init__(self):
        self.hands = [0] * 8

    def refusal(self, hand, field):
        thing = self.hands[hand]
        if not isinstance(thing, EndlessThing):
            return NoThing
        return None if field in range(len(thing.fields)) else NoField

    def found(self, start):
        found = []
        waiting = list(start)
        while waiting:
            thing = waiting.pop(0)
            if isinstance(thing, EndlessThing) and thing not in found:
                found.append(thing)
                waiting.extend(thing.fields)
        return found

    def shape(self, hand):
        found = self.found([self.hands[hand]])

        def told(value):
            return ("thing", found.index(value)) if isinstance(value, EndlessThing) else ("number", value)

        return tuple(tuple(map(told, thing.fields)) for thing in found) or ("number", self.hands[hand])

    def reached(self):
        return [thing.real for thing in self.found(self.hands)]


def words(things):
    return sum(2 + len(thing.fields) for thing in things)


class Run:
    def __init__(self, case, seed, size):
        self.case = case
        self.choice = random.Random(seed)
        self.size = size
        self.memory, self.sweeper = new_hall(size)
        self.endless = EndlessHall()
        self.doomed = []
        self.newborn = []
        self.seen = {"refused": 0, "room made": 0, "ended": 0}

    def hand(self):
        return self.choice.randrange(8)

    def number(self):
        hand, n = self.hand(), self.choice.randrange(-9, 10)
        self.memory.number(hand, n)
        self.endless.hands[hand] = n

    def copy(self):
        hand, other = self.hand(), self.hand()
        self.memory.copy(hand, other)
        self.endless.hands[hand] = self.endless.hands[other]

    def attempt(self, refusal, call, *handed):
        if refusal is None:
            call(*handed)
            return True
        self.case.assertRaises(refusal, call, *handed)
        return False

    def load(self):
        hand, other, field = self.hand(), self.hand(), self.choice.randrange(-1, 6)
        if self.attempt(self.endless.refusal(other, field), self.memory.load, hand, other, field):
            self.endless.hands[hand] = self.endless.hands[other].fields[field]

    def store(self):
        hand, other, field = self.hand(), self.hand(), self.choice.randrange(-1, 6)
        if self.attempt(self.endless.refusal(hand, field), self.sweeper.store, hand, field, other):
            self.endless.hands[hand].fields[field] = self.endless.hands[other]

    def make(self):
        hand, many = self.hand(), self.choice.randrange(7)
        gaps = [place for place, wide, used in self.memory.blocks() if not used and wide >= 2 + many]
        order = list(self.memory.things)
        reached = self.endless.reached()
        try:
            self.sweeper.make(hand, many)
        except NoRoom:
            self.seen["refused"] += 1
            self.case.assertGreater(words(reached) + 2 + many, self.size)
            self.check_room_made(order, reached)
            return
        thing = EndlessThing(many)
        thing.real = self.memory.held(hand)
        if gaps:
            self.case.assertEqual(self.memory.place_of(hand), gaps[0])
            if self.sweeper.phase() != "idle":
                self.newborn.append(thing.real)
        else:
            self.seen["room made"] += 1
            self.case.assertEqual(self.memory.place_of(hand), words(reached))
            self.check_room_made(order, reached, thing.real)
        self.endless.hands[hand] = thing

    def check_room_made(self, order, reached, *last):
        left = [thing for thing in order if thing in reached]
        self.case.assertEqual(self.memory.things, left + list(last))
        self.case.assertEqual(sum(used for _, _, used in self.memory.blocks()), len(left) + len(last))
        self.check_no_gap()
        self.case.assertEqual(self.sweeper.phase(), "idle")
        self.doomed = []
        self.newborn = []

    def check_no_gap(self):
        free = [block for block in self.memory.blocks() if not block[2]]
        self.case.assertLessEqual(len(free), 1)
        self.case.assertTrue(all(place + wide == self.size for place, wide, _ in free))

    def begin(self):
        if self.sweeper.phase() != "idle":
            self.case.assertRaises(HallError, self.sweeper.begin)
            return
        reached = self.endless.reached()
        self.doomed = [thing for thing in self.memory.things if thing not in reached]
        self.newborn = []
        self.sweeper.begin()
        self.look_for_end()

    def look_for_end(self):
        if self.sweeper.phase() == "idle":
            self.seen["ended"] += 1
            for thing in self.doomed:
                self.case.assertNotIn(thing, self.memory.things)
            for thing in self.newborn:
                self.case.assertIn(thing, self.memory.things)
            self.doomed = []
            self.newborn = []

    def step(self):
        if self.sweeper.phase() != "idle":
            n = self.choice.randrange(4)
            done = self.sweeper.step(n)
            self.case.assertTrue(done == n or done < n and self.sweeper.phase() == "idle")
            self.look_for_end()

    def finish(self):
        if self.sweeper.phase() != "idle":
            most = 2 * len(self.memory.things)
            self.case.assertLessEqual(self.sweeper.finish(), most)
            self.look_for_end()

    def slide(self):
        if self.sweeper.phase() != "idle":
            self.case.assertRaises(HallError, self.sweeper.slide)
            return
        order = list(self.memory.things)
        self.sweeper.slide()
        self.case.assertEqual(self.memory.things, order)
        self.check_no_gap()

    def check(self):
        for hand in HANDS:
            self.case.assertEqual(self.memory.shape_of(hand), self.endless.shape(hand))
            for other in HANDS:
                mine, others = self.endless.hands[hand], self.endless.hands[other]
                same = isinstance(mine, EndlessThing) and mine is others
                self.case.assertIs(self.memory.alike(hand, other), same)
        for thing in self.endless.reached():
            self.case.assertIn(thing, self.memory.things)
        self.check_blocks()
        self.check_colours()

    def check_blocks(self):
        at = 0
        before = 1
        for place, wide, used in self.memory.blocks():
            self.case.assertEqual(place, at)
            self.case.assertIn(wide, range(2, 9) if used else range(1, self.size + 1))
            self.case.assertTrue(used or before)
            before = used
            at += wide
        self.case.assertEqual(at, self.size)

    def check_colours(self):
        phase, colours, finger = self.sweeper.phase(), self.sweeper.colours(), self.sweeper.finger()
        places = [place for place, _, used in self.memory.blocks() if used]
        self.case.assertEqual(len(colours), len(places))
        self.case.assertEqual(finger is None, phase != "sweep")
        self.case.assertEqual("grey" in colours, phase == "mark")
        if phase == "idle":
            self.case.assertNotIn("black", colours)
        if phase == "sweep":
            self.case.assertTrue(any(place >= finger for place in places))
            self.case.assertTrue(all(c == "white" for p, c in zip(places, colours) if p < finger))

    def go(self, turns):
        doings = [self.number, self.copy, self.make, self.make, self.load, self.load, self.store, self.store]
        doings += [self.store, self.step, self.step, self.begin]
        rare = [self.slide, self.finish]
        for _ in range(turns):
            self.choice.choice(rare if self.choice.randrange(12) == 0 else doings)()
            self.check()


class LongRuns(unittest.TestCase):
    def test_halls_of_many_sizes_hold_what_an_endless_hall_would(self):
        seen = {"refused": 0, "room made": 0, "ended": 0}
        for seed, size in enumerate((4, 5, 7, 10, 16, 20, 30, 30, 40, 40, 60, 60, 100, 200)):
            with self.subTest(seed=seed, size=size):
                run = Run(self, seed, size)
                run.go(1500)
                for what in seen:
                    seen[what] += run.seen[what]
        for what in seen:
            self.assertGreater(seen[what], 50, what)


if __name__ == "__main__":
    unittest.main()
