"""The names and arguments of the interface, as the document tells them."""

import inspect
import unittest

from greyhall.checking import is_sound
from greyhall.halls import Hall
from greyhall.walking import come_to

METHODS = {
    "number": ["hand", "n"],
    "copy": ["hand", "other"],
    "make": ["hand", "many"],
    "load": ["hand", "other", "field"],
    "store": ["hand", "field", "other"],
    "value_of": ["hand"],
    "alike": ["hand", "other"],
    "shape_of": ["hand"],
    "blocks": [],
    "place_of": ["hand"],
    "slide": [],
    "begin": [],
    "step": ["n"],
    "finish": [],
    "phase": [],
    "colours": [],
    "finger": [],
}


def arguments(called):
    return list(inspect.signature(called).parameters)


class Interface(unittest.TestCase):
    def test_the_hall(self):
        self.assertEqual(arguments(Hall), ["size"])
        hall = Hall(size=4)
        for name, handed in METHODS.items():
            self.assertEqual(arguments(getattr(hall, name)), handed, name)

    def test_the_functions(self):
        self.assertEqual(arguments(come_to), ["hall"])
        self.assertEqual(arguments(is_sound), ["blocks", "size"])


if __name__ == "__main__":
    unittest.main()
