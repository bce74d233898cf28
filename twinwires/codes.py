"""Codes that mend: the signs of wrongs, wrongs that look alike and part, and guesses."""

from twinwires.bits import bit_at, is_whole_number, places
from twinwires.errors import NoCode, NoMend
from twinwires.rows import XS, ZS, all_beside, goes_beside, is_row, signs_number
from twinwires.spans import Span, are_apart

MOST_WIRES_OF_CODE = 9


class Code:
    def __init__(self, n, rows):
        check_code(n, rows)
        self.n = n
        self.checks = list(rows)
        self.span = Span([signs_number(row, n) for row in rows])

    def wires(self):
        return self.n

    def rows(self):
        return list(self.checks)

    def signs(self, wrong):
        return [0 if goes_beside(row, wrong) else 1 for row in self.checks]

    def harmless(self, wrong):
        return self.span.parts_of(signs_number(wrong, self.n)) is not None

    def parting_wrongs(self, many):
        # Of wrongs that look alike, two that don't part with the first don't part with one another.
        firsts = {}
        for wrong in wrongs_up_to(many, self.n):
            first = firsts.setdefault(tuple(self.signs(wrong)), wrong)
            both = together(first, wrong)
            if not self.harmless(both):
                return (first, wrong, self.row_across(both))
        return None

    def row_across(self, wrong):
        # A row beside each of the code's rows, but not beside the wrong, which is harmful and beside them all.
        # With the parts exchanged, bits in common count what decides whether two rows go beside one another.
        rows = self.checks + [wrong]
        number = Span([signs_number((0, row[ZS], row[XS]), self.n) for row in rows]).odd_with_last()
        return (0, number & ((1 << self.n) - 1), number >> self.n)

    def guess(self, signs, many):
        for wrong in wrongs_up_to(many, self.n):
            if self.signs(wrong) == signs:
                return wrong
        raise NoMend("no wrong so light has these signs")


def check_code(n, rows):
    if not is_whole_number(n) or n < 1 or n > MOST_WIRES_OF_CODE:
        raise NoCode("a code has one to nine wires")
    if not isinstance(rows, list) or len(rows) > n:
        raise NoCode("a code has a list of rows, no more than wires")
    if not all([is_row(row, n) for row in rows]):
        raise NoCode("the rows of a code are rows for its wires")
    if not all_beside(rows):
        raise NoCode("the rows of a code go beside one another")
    if not are_apart([signs_number(row, n) for row in rows]):
        raise NoCode("no row of a code is without letters, or has those of a product of others")


def together(one, other):
    return (0, one[XS] ^ other[XS], one[ZS] ^ other[ZS])


def wrongs_up_to(many, n):
    # The lightest ones first.
    told = [(0, 0, 0)]
    heaviest = told
    for turn in range(many):
        heaviest = with_a_letter_more(heaviest, n)
        told = told + heaviest
    return told


def with_a_letter_more(wrongs, n):
    # The new letter stands behind all others, so that no wrong comes twice.
    told = []
    for wrong in wrongs:
        for k in range((wrong[XS] | wrong[ZS]).bit_length(), n):
            bit = 1 << k
            told.append((0, wrong[XS] | bit, wrong[ZS]))
            told.append((0, wrong[XS] | bit, wrong[ZS] | bit))
            told.append((0, wrong[XS], wrong[ZS] | bit))
    return told


def deeds_of(row):
    told = []
    for k in places(row[XS] | row[ZS]):
        # Two quarters do what z does; y is z and x, but for a factor.
        if bit_at(row[ZS], k) == 1:
            told.extend([("quarter", k), ("quarter", k)])
        if bit_at(row[XS], k) == 1:
            told.append(("over", k))
    return told
