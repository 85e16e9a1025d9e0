"""What several tests need: halls with things in them, and a look at all that can be told of one."""

from greyhall.errors import HallError
from greyhall.halls import Hall

HANDS = range(8)


def place_or_none(hall, hand):
    return hall.place_of(hand) if hall.value_of(hand)[0] == "thing" else None


def told(hall):
    return (
        [hall.value_of(hand) for hand in HANDS],
        [hall.shape_of(hand) for hand in HANDS],
        [hall.alike(hand, other) for hand in HANDS for other in HANDS],
        [place_or_none(hall, hand) for hand in HANDS],
        hall.blocks(),
        hall.phase(),
        hall.colours(),
        hall.finger(),
    )


def row_of_things(size, *manies):
    """A hall with one thing beside another, the first in hand 0, the next in hand 1, and so on."""
    hall = Hall(size)
    for hand, many in enumerate(manies):
        hall.make(hand, many)
    return hall


def let_go(hall, *hands):
    for hand in hands:
        hall.number(hand, 0)


def chain_of_things(size, many, length):
    """Side by side, each thing holds the one before it in its first field; hand 0 alone holds the last."""
    hall = row_of_things(size, many)
    for _ in range(length - 1):
        hall.make(1, many)
        hall.store(1, 0, 0)
        hall.copy(0, 1)
    let_go(hall, 1)
    return hall


def sweep_away(hall, *hands):
    """Let go what the hands hold, and sweep once."""
    let_go(hall, *hands)
    hall.begin()
    hall.finish()


def check_refused(case, error, hall, call, *handed):
    """The call is refused with just this error, and nothing that can be told of the hall changes."""
    before = told(hall)
    with case.assertRaises(HallError) as caught:
        call(*handed)
    case.assertIs(type(caught.exception), error)
    case.assertEqual(told(hall), before)
