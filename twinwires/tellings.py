"""Rows of a whole: its one telling, and what parts two wholes."""

from twinwires.bits import bit_at, places
from twinwires.errors import NoWhole
from twinwires.rows import MINUS, XS, ZS, all_beside, is_row, product_of, signs_number, times
from twinwires.spans import Span, are_apart


def check_whole(rows, n):
    if not isinstance(rows, list) or len(rows) != n:
        raise NoWhole("a whole has as many rows as wires")
    if not all([is_row(row, n) for row in rows]):
        raise NoWhole("the rows of a whole are rows for its wires")
    if not all_beside(rows):
        raise NoWhole("the rows of a whole go beside one another")
    if not are_apart([signs_number(row, n) for row in rows]):
        raise NoWhole("no row of a whole is a product of others")


def telling(rows, n):
    check_whole(rows, n)
    rest = list(rows)
    told = []
    for sign in range(2 * n):
        leading = [row for row in rest if has_sign(row, sign, n)]
        if leading != []:
            first = leading[0]
            rest = without_sign(rest, sign, first, n)
            told = without_sign(told, sign, first, n) + [first]
    return told


def has_sign(row, sign, n):
    return bit_at(signs_number(row, n), sign) == 1


def without_sign(rows, sign, leading, n):
    # The leading row itself becomes the row without letters, which leads nowhere.
    return [times(row, leading) if has_sign(row, sign, n) else row for row in rows]


def made_of(rows, row):
    width = widest(rows + [row])
    parts = Span([signs_number(other, width) for other in rows]).parts_of(signs_number(row, width))
    if parts is None:
        return None
    numbers = places(parts)
    product = product_of([rows[k] for k in numbers])
    return (numbers, product[MINUS] ^ row[MINUS])


def widest(rows):
    return max([max(row[XS], row[ZS]).bit_length() for row in rows])


def same_rows(one, other, n):
    return telling(one, n) == telling(other, n)


def parting(one, other, n):
    check_whole(one, n)
    check_whole(other, n)
    for row in one:
        if not is_among(row, other):
            return row
    return None


def is_among(row, rows):
    found = made_of(rows, row)
    return found is not None and found[1] == 0
