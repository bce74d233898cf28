"""The exact machine, and what is told of its wholes."""

from twinwires.bits import ones
from twinwires.machines import Machine
from twinwires.parts import added, multiplied, times_i
from twinwires.rows import MINUS, XS, ZS, letters_y

MOST_WIRES_EXACT = 6


def acted_on(whole, row):
    told = {}
    for b, pair in whole.items():
        # A minus is i done twice.
        minuses = row[MINUS] + ones(b & row[ZS])
        told[b ^ row[XS]] = times_i(pair, 2 * minuses + letters_y(row))
    return told


def whole_weight(whole):
    return sum([re * re + im * im for re, im in whole.values()])


def same_whole(one, other):
    if sorted(one) != sorted(other):
        return False
    # With a and c of one row, b and d of another: c is a times the factor, and d is b times it, where a d is b c.
    first = min(one)
    return all([multiplied(one[first], other[b]) == multiplied(one[b], other[first]) for b in one])


def halves_by(whole, row):
    return (whole_weight(half_by(whole, row, 0)), whole_weight(half_by(whole, row, 1)))


def half_by(whole, row, value):
    # The whole and what the row makes of it, added (value 0), or the one less the other (value 1).
    return added(whole, acted_on(whole, (row[MINUS] ^ value, row[XS], row[ZS])))


class Exact(Machine):
    def __init__(self, n):
        Machine.__init__(self, n, MOST_WIRES_EXACT)
        self.amounts = {0: (1, 0)}

    def whole(self):
        return dict(self.amounts)

    def follow(self, deed):
        self.amounts = deed.on_whole(self.amounts)

    def sure_value(self, row):
        # In a sure look the other half is nothing at all.
        if half_by(self.amounts, row, 1) == {}:
            return 0
        if half_by(self.amounts, row, 0) == {}:
            return 1
        return None

    def settle(self, row, value):
        self.amounts = half_by(self.amounts, row, value)
