"""What several tests need: a hall of the program's parts, and a look at all that can be told of it."""

from greyhall.memory import Memory
from greyhall.sweeping import Sweeper

HANDS = range(8)


def new_hall(size):
    memory = Memory(size)
    return memory, Sweeper(memory)


def told(memory, sweeper):
    return (
        [memory.value_of(hand) for hand in HANDS],
        [memory.shape_of(hand) for hand in HANDS],
        [memory.alike(hand, other) for hand in HANDS for other in HANDS],
        memory.blocks(),
        sweeper.phase(),
        sweeper.colours(),
        sweeper.finger(),
    )


def row_of_things(size, *manies):
    """A hall with one thing beside another, the first in hand 0, the next in hand 1, and so on."""
    memory, sweeper = new_hall(size)
    for hand, many in enumerate(manies):
        sweeper.make(hand, many)
    return memory, sweeper


def let_go(memory, *hands):
    for hand in hands:
        memory.number(hand, 0)


def sweep_away(memory, sweeper, *hands):
    """Let go what the hands hold, and sweep once."""
    let_go(memory, *hands)
    sweeper.begin()
    sweeper.finish()
