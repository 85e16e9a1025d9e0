"""is_sound: whether a thing is what blocks could tell."""

import copy
import unittest

from greyhall.checking import is_sound
from greyhall.halls import Hall
from helper import row_of_things, sweep_away

SIZE = 30
# A free block before, between and behind things, and two things side by side.
BLOCKS = ((0, 1, 0), (1, 2, 1), (3, 8, 1), (11, 4, 0), (15, 5, 1), (20, 10, 0))


def changed(at, block):
    return BLOCKS[:at] + (block,) + BLOCKS[at + 1:]


class Sound(unittest.TestCase):
    def check(self, blocks, size):
        self.assertIs(is_sound(blocks, size), True, blocks)

    def test_the_blocks_of_the_other_tests(self):
        self.check(BLOCKS, SIZE)

    def test_empty_halls(self):
        for size in (4, 5, 57, 199, 200):
            self.check(Hall(size).blocks(), size)
            self.check(((0, size, 0),), size)

    def test_things_of_each_width(self):
        for many in range(7):
            self.check(row_of_things(20, many).blocks(), 20)
            self.check(((0, 2 + many, 1), (2 + many, 18 - many, 0)), 20)

    def test_full_halls(self):
        self.check(row_of_things(4, 2).blocks(), 4)
        self.check(row_of_things(4, 0, 0).blocks(), 4)
        self.check(row_of_things(13, 0, 6, 1).blocks(), 13)
        self.check(tuple((place, 8, 1) for place in range(0, 200, 8)), 200)
        self.check(tuple((place, 2, 1) for place in range(0, 200, 2)), 200)

    def test_halls_with_gaps(self):
        hall = row_of_things(40, 1, 6, 0, 3, 2)
        sweep_away(hall, 0, 2)
        self.check(hall.blocks(), 40)
        hall.slide()
        self.check(hall.blocks(), 40)

    def test_a_gap_of_one_word(self):
        self.check(((0, 3, 1), (3, 1, 0)), 4)
        self.check(((0, 1, 0), (1, 3, 1)), 4)

    def test_another_use_that_a_hall_could_have_too(self):
        self.check(changed(3, (11, 4, 1)), SIZE)

    def test_sizes_somewhat_beyond_the_bounds(self):
        self.check(row_of_things(3, 1).blocks(), 3)
        self.check(row_of_things(201, 6).blocks(), 201)


class NotSound(unittest.TestCase):
    def check(self, blocks, size=SIZE):
        before = copy.deepcopy(blocks)
        self.assertIs(is_sound(blocks, size), False, blocks)
        self.assertEqual(blocks, before)

    def test_another_place(self):
        for at, (place, wide, used) in enumerate(BLOCKS):
            for other in (place - 1, place + 1, -place - 1, place + SIZE):
                self.check(changed(at, (other, wide, used)))

    def test_another_width(self):
        for at, (place, wide, used) in enumerate(BLOCKS):
            for other in (wide - 1, wide + 1, 0, -1, -wide, wide + SIZE):
                self.check(changed(at, (place, other, used)))

    def test_another_use(self):
        for at, (place, wide, used) in enumerate(BLOCKS):
            for other in (-1, 2, 10 ** 20):
                self.check(changed(at, (place, wide, other)))
        # Side by side with a free block, or as a thing of a width that none has.
        for at in range(len(BLOCKS)):
            if at != 3:
                place, wide, used = BLOCKS[at]
                self.check(changed(at, (place, wide, 1 - used)))

    def test_things_of_too_few_or_too_many_words(self):
        self.check(((0, 1, 1), (1, 3, 0)), 4)
        self.check(((0, 4, 1), (4, 0, 1)), 4)
        self.check(((0, 9, 1),), 9)
        self.check(((0, 9, 1), (9, 11, 0)), 20)
        self.check(((0, 200, 1),), 200)

    def test_a_free_block_without_words(self):
        self.check(((0, 0, 0), (0, 4, 1)), 4)
        self.check(((0, 4, 1), (4, 0, 0)), 4)
        self.check(((0, 2, 1), (2, 0, 0), (2, 2, 1)), 4)
        self.check(((0, 0, 0),), 0)

    def test_one_left_out(self):
        for at in range(len(BLOCKS)):
            self.check(BLOCKS[:at] + BLOCKS[at + 1:])

    def test_one_doubled(self):
        for at in range(len(BLOCKS)):
            self.check(BLOCKS[:at] + (BLOCKS[at],) + BLOCKS[at:])

    def test_a_free_one_split_in_two(self):
        self.check(BLOCKS[:3] + ((11, 2, 0), (13, 2, 0)) + BLOCKS[4:])
        self.check(BLOCKS[:5] + ((20, 1, 0), (21, 9, 0)))
        self.check(((0, 2, 0), (2, 2, 0)), 4)

    def test_a_thing_split_into_parts_that_are_too_small(self):
        self.check(BLOCKS[:1] + ((1, 1, 1), (2, 1, 1)) + BLOCKS[2:])
        self.check(BLOCKS[:2] + ((3, 7, 1), (10, 1, 1)) + BLOCKS[3:])

    def test_two_that_change_places(self):
        for at in range(len(BLOCKS) - 1):
            self.check(BLOCKS[:at] + (BLOCKS[at + 1], BLOCKS[at]) + BLOCKS[at + 2:])
        self.check(tuple(reversed(BLOCKS)))

    def test_things_that_lie_over_one_another(self):
        self.check(((0, 4, 1), (2, 4, 1), (6, 4, 0)), 10)
        self.check(((0, 4, 1), (0, 4, 1), (4, 6, 0)), 10)

    def test_words_that_none_covers(self):
        self.check(((0, 4, 1), (5, 5, 0)), 10)
        self.check(((1, 4, 1), (5, 5, 0)), 10)
        self.check(((0, 4, 1),), 10)

    def test_a_list_in_the_place_of_a_tuple(self):
        self.check(list(BLOCKS))
        self.check([list(block) for block in BLOCKS])
        self.check(tuple(list(block) for block in BLOCKS))
        for at in range(len(BLOCKS)):
            self.check(changed(at, list(BLOCKS[at])))

    def test_a_truth_in_the_place_of_a_whole_number(self):
        # Each of these equals the sound blocks, for Python.
        self.check(changed(0, (False, 1, 0)))
        self.check(changed(0, (0, True, 0)))
        self.check(changed(1, (True, 2, 1)))
        for at, (place, wide, used) in enumerate(BLOCKS):
            self.check(changed(at, (place, wide, bool(used))))

    def test_other_kinds_in_the_place_of_a_whole_number(self):
        for at, block in enumerate(BLOCKS):
            for k in range(3):
                for other in (None, "", str(block[k]), (), (block[k],), [], [block[k]], True, False):
                    self.check(changed(at, block[:k] + (other,) + block[k + 1:]))

    def test_other_things_in_the_place_of_a_triple(self):
        for at, (place, wide, used) in enumerate(BLOCKS):
            others = (None, True, 0, place, "", "abc", (), [], (place,), (place, wide), (place, wide, used, 0))
            for other in others + (((place, wide, used),), (None, None, None), ("a", "b", "c")):
                self.check(changed(at, other))

    def test_what_is_no_tuple_of_triples_at_all(self):
        for thing in (None, True, False, 0, 1, -1, SIZE, 10 ** 30, "", "blocks", str(BLOCKS), [], [[]], [None]):
            self.check(thing)
        for thing in ((), ((),), ((), ()), (None,), (0, SIZE, 0), ("", "", ""), ("abc",), (BLOCKS,), [BLOCKS]):
            self.check(thing)

    def test_deep_things(self):
        deep = ()
        for _ in range(60):
            deep = ([deep],)
        self.check(deep)
        self.check((deep, deep, deep))

    def test_the_empty_tuple(self):
        for size in (1, 4, 200):
            self.check((), size)

    def test_another_size(self):
        for size in (SIZE - 1, SIZE + 1, 4, 20, 200, 0, -SIZE):
            self.check(BLOCKS, size)
        self.check(Hall(4).blocks(), 5)
        self.check(Hall(200).blocks(), 199)

    def test_a_size_that_is_no_whole_number(self):
        for size in (None, True, False, "30", "", [], (), [SIZE], (SIZE,)):
            self.check(BLOCKS, size)
        self.check(((0, 1, 0),), True)
        self.check((), False)


if __name__ == "__main__":
    unittest.main()
