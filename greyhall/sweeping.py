"""The sweeper: it finds what no hand comes to and takes it away, a part of work at a time."""

from greyhall.errors import NoRoom, NotNow
from greyhall.memory import WHITE, Thing

GREY = "grey"
BLACK = "black"
IDLE = "idle"
MARK = "mark"
SWEEP = "sweep"


def make_grey(value):
    if isinstance(value, Thing) and value.colour == WHITE:
        value.colour = GREY


class Sweeper:
    # What the sweeper must know of (make, store, slide) is done through it, the rest by the memory alone.

    def __init__(self, memory):
        self.memory = memory
        self.stage = IDLE
        self.finger_place = None

    def phase(self):
        return self.stage

    def finger(self):
        return self.finger_place

    def colours(self):
        return tuple([thing.colour for thing in self.memory.things])

    def refuse_during_sweep(self):
        if self.stage != IDLE:
            raise NotNow("a sweep goes on")

    def begin(self):
        self.refuse_during_sweep()
        self.stage = MARK
        for thing in self.memory.things_held():
            make_grey(thing)
        self.change_stage()

    def step(self, n):
        done = 0
        while done < n and self.stage != IDLE:
            self.do_part()
            done += 1
        return done

    def finish(self):
        done = 0
        while self.stage != IDLE:
            done += self.step(1)
        return done

    def do_part(self):
        if self.stage == MARK:
            self.mark_thing(self.least_grey())
        else:
            self.sweep_thing(self.least_from_finger())
        self.change_stage()

    def least_grey(self):
        for thing in self.memory.things:
            if thing.colour == GREY:
                return thing
        return None

    def least_from_finger(self):
        for thing in self.memory.things:
            if thing.place >= self.finger_place:
                return thing
        return None

    def mark_thing(self, thing):
        for value in thing.fields:
            make_grey(value)
        thing.colour = BLACK

    def sweep_thing(self, thing):
        if thing.colour == WHITE:
            self.memory.take_away(thing)
        else:
            thing.colour = WHITE
        self.finger_place = thing.behind()

    def change_stage(self):
        # Both changes may fall on one moment: a sweep of no thing at all is done as it begins.
        if self.stage == MARK and self.least_grey() is None:
            self.stage = SWEEP
            self.finger_place = 0
        if self.stage == SWEEP and self.least_from_finger() is None:
            self.stage = IDLE
            self.finger_place = None

    def store(self, hand, field, other):
        # Read before anything is made grey: a refused store changes nothing.
        lost = self.memory.field_value(hand, field)
        # A hand may hold what this field held, and no other way be left on which marking comes to it.
        if self.stage == MARK:
            make_grey(lost)
        self.memory.store(hand, field, other)

    def make(self, hand, many):
        thing = Thing(many)
        place = self.memory.free_place(thing.words())
        if place is None:
            place = self.room_behind_all(thing.words())
        thing.colour = self.colour_at(place)
        self.memory.lay(thing, place)
        self.memory.hold(hand, thing)

    def colour_at(self, place):
        if self.stage == MARK:
            return BLACK
        if self.stage == SWEEP and place >= self.finger_place:
            return BLACK
        return WHITE

    def room_behind_all(self, words):
        # What was let go since a sweep began outlives it, so only a sweep begun now finds all of it.
        self.finish()
        self.begin()
        self.finish()
        self.memory.slide()
        place = self.memory.free_place(words)
        if place is None:
            raise NoRoom(f"there is no room for {words} words")
        return place

    def slide(self):
        self.refuse_during_sweep()
        self.memory.slide()
