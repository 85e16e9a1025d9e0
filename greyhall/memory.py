"""Things with fields that lie in numbered words, and hands that have numbers or hold things."""

from greyhall.errors import NoField, NoThing

HEAD_WORDS = 2
WHITE = "white"


class Thing:
    # Hands and fields hold the object itself, not its place: sliding then has nothing to mend in them.

    def __init__(self, many):
        self.place = None
        self.fields = [0] * many
        self.colour = WHITE

    def words(self):
        return HEAD_WORDS + len(self.fields)

    def behind(self):
        return self.place + self.words()


def find_things(values, found):
    for value in values:
        if isinstance(value, Thing) and value not in found:
            found.append(value)


def things_found(values):
    found = []
    find_things(values, found)
    at = 0
    while at < len(found):
        find_things(found[at].fields, found)
        at += 1
    return found


def field_told(value, found):
    if isinstance(value, Thing):
        return ("thing", found.index(value))
    return ("number", value)


def thing_told(thing, found):
    return tuple([field_told(value, found) for value in thing.fields])


class Memory:
    def __init__(self, size):
        self.size = size
        self.hands = {}
        # Always rising by places: the least place, the blocks and the sliding all go by that order.
        self.things = []

    def held(self, hand):
        # Each hand has 0 at first, and none is refused for its number: a hand not yet written has 0.
        return self.hands.get(hand, 0)

    def hold(self, hand, value):
        self.hands[hand] = value

    def things_held(self):
        return [value for value in self.hands.values() if isinstance(value, Thing)]

    def thing_in(self, hand):
        value = self.held(hand)
        if not isinstance(value, Thing):
            raise NoThing(f"hand {hand} holds no thing")
        return value

    def thing_with_field(self, hand, field):
        thing = self.thing_in(hand)
        # Python would take a field below 0 for one counted from the end.
        if field < 0 or field >= len(thing.fields):
            raise NoField(f"the thing in hand {hand} has no field {field}")
        return thing

    def field_value(self, hand, field):
        return self.thing_with_field(hand, field).fields[field]

    def number(self, hand, n):
        self.hold(hand, n)

    def copy(self, hand, other):
        self.hold(hand, self.held(other))

    def load(self, hand, other, field):
        self.hold(hand, self.field_value(other, field))

    def store(self, hand, field, other):
        thing = self.thing_with_field(hand, field)
        thing.fields[field] = self.held(other)

    def value_of(self, hand):
        value = self.held(hand)
        if isinstance(value, Thing):
            return ("thing", len(value.fields))
        return ("number", value)

    def alike(self, hand, other):
        value = self.held(hand)
        return isinstance(value, Thing) and value == self.held(other)

    def shape_of(self, hand):
        value = self.held(hand)
        if not isinstance(value, Thing):
            return ("number", value)
        found = things_found([value])
        return tuple([thing_told(thing, found) for thing in found])

    def place_of(self, hand):
        return self.thing_in(hand).place

    def free_place(self, words):
        at = 0
        for thing in self.things:
            if thing.place - at >= words:
                return at
            at = thing.behind()
        return at if self.size - at >= words else None

    def lay(self, thing, place):
        thing.place = place
        before = [lying for lying in self.things if lying.place < place]
        self.things.insert(len(before), thing)

    def take_away(self, thing):
        self.things.remove(thing)

    def blocks(self):
        told = []
        at = 0
        for thing in self.things:
            if at < thing.place:
                told.append((at, thing.place - at, 0))
            told.append((thing.place, thing.words(), 1))
            at = thing.behind()
        if at < self.size:
            told.append((at, self.size - at, 0))
        return tuple(told)

    def slide(self):
        at = 0
        for thing in self.things:
            thing.place = at
            at = thing.behind()
