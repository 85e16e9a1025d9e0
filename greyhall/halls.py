"""The hall: memory and its sweeper, to be used as one."""

from greyhall.memory import Memory
from greyhall.sweeping import Sweeper


class Hall:
    # What may depend on a sweep or change its course goes through the sweeper, the rest straight to the memory.

    def __init__(self, size):
        self.memory = Memory(size)
        self.sweeper = Sweeper(self.memory)

    def number(self, hand, n):
        self.memory.number(hand, n)

    def copy(self, hand, other):
        self.memory.copy(hand, other)

    def make(self, hand, many):
        self.sweeper.make(hand, many)

    def load(self, hand, other, field):
        self.memory.load(hand, other, field)

    def store(self, hand, field, other):
        self.sweeper.store(hand, field, other)

    def value_of(self, hand):
        return self.memory.value_of(hand)

    def alike(self, hand, other):
        return self.memory.alike(hand, other)

    def shape_of(self, hand):
        return self.memory.shape_of(hand)

    def blocks(self):
        return self.memory.blocks()

    def place_of(self, hand):
        return self.memory.place_of(hand)

    def slide(self):
        self.sweeper.slide()

    def begin(self):
        self.sweeper.begin()

    def step(self, n):
        return self.sweeper.step(n)

    def finish(self):
        return self.sweeper.finish()

    def phase(self):
        return self.sweeper.phase()

    def colours(self):
        return self.sweeper.colours()

    def finger(self):
        return self.sweeper.finger()
