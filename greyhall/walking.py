"""The way along hands and fields to all things that are still needed."""

from greyhall.memory import things_found


def come_to(hall):
    found = things_found(hall.memory.things_held())
    return tuple(sorted([thing.place for thing in found]))
