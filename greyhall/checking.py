"""Whether something is what a hall could tell of its blocks."""

LEAST_WORDS = 2
MOST_WORDS = 8


def is_whole_number(value):
    # Python counts truths among its ints.
    return isinstance(value, int) and not isinstance(value, bool)


def is_triple(value):
    if not isinstance(value, tuple) or len(value) != 3:
        return False
    return all([is_whole_number(part) for part in value])


def is_row_of_triples(value):
    return isinstance(value, tuple) and all([is_triple(part) for part in value])


def has_right_width(words, used):
    if used == 1:
        return LEAST_WORDS <= words <= MOST_WORDS
    return used == 0 and words > 0


def is_sound(blocks, size):
    if not is_whole_number(size) or not is_row_of_triples(blocks):
        return False
    at = 0
    used_before = 1
    for block in blocks:
        words = block[1]
        used = block[2]
        if block[0] != at or not has_right_width(words, used):
            return False
        if used == 0 and used_before == 0:
            return False
        at += words
        used_before = used
    return at == size
