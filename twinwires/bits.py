"""Whole numbers, and their bits as wires: wire k is the bit worth 1 << k."""

MOST_WIRES = 40


def is_whole_number(thing):
    # Python counts True and False among the ints; the program doesn't.
    return isinstance(thing, int) and not isinstance(thing, bool)


def ones(number):
    found = 0
    rest = number
    while rest > 0:
        # Taking 1 away turns over the lowest 1 and what is below it, so each round takes just one 1.
        rest = rest & (rest - 1)
        found = found + 1
    return found


def places(number):
    return [k for k in range(number.bit_length()) if bit_at(number, k) == 1]


def bit_at(number, k):
    return (number >> k) & 1


def lowest_bit(number):
    return number & -number
