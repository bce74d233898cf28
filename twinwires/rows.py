"""Rows of signs: tuples (minus, xs, zs), their products and their texts."""

from twinwires.bits import MOST_WIRES, bit_at, is_whole_number, ones
from twinwires.errors import NoProduct, NoRow, NoText

MINUS = 0
XS = 1
ZS = 2

# A sign's place here is its bit in xs, and twice its bit in zs.
SIGNS = ".xzy"


def checked_row(thing, n):
    if not isinstance(thing, tuple) or len(thing) != 3:
        raise NoRow("a row of signs is a tuple of three")
    # The words of a refusal don't show the thing: Python can't write every number.
    if not all([is_whole_number(part) for part in thing]):
        raise NoRow("the parts of a row are whole numbers")
    if thing[MINUS] != 0 and thing[MINUS] != 1:
        raise NoRow("the minus of a row is 0 or 1")
    if not fits(thing[XS], n) or not fits(thing[ZS], n):
        raise NoRow("xs and zs of a row have bits of the wires alone")
    return thing


def is_row(thing, n):
    try:
        checked_row(thing, n)
    except NoRow:
        return False
    return True


def fits(number, n):
    return number >= 0 and number < 1 << n


def weight_of(row):
    return ones(row[XS] | row[ZS])


def goes_beside(one, other):
    # A wire counted on both sides adds two, which is even: so only the unlike bits matter.
    crossings = (one[XS] & other[ZS]) ^ (one[ZS] & other[XS])
    return ones(crossings) % 2 == 0


def times(one, other):
    if not goes_beside(one, other):
        raise NoProduct("the rows don't go beside one another")
    xs = one[XS] ^ other[XS]
    zs = one[ZS] ^ other[ZS]
    # The factor of both is counted in quarters, as i is one: a minus is two of them.
    # The other row meets the number with the bits of one's xs turned over already,
    # and the product brings the i of its own letters y by itself.
    minuses = one[MINUS] + other[MINUS] + ones(one[XS] & other[ZS])
    quarters = 2 * minuses + letters_y(one) + letters_y(other) - ones(xs & zs)
    return (quarters % 4 // 2, xs, zs)


def letters_y(row):
    return ones(row[XS] & row[ZS])


def product_of(rows):
    product = (0, 0, 0)
    for row in rows:
        product = times(product, row)
    return product


def all_beside(rows):
    return all([all([goes_beside(row, other) for other in rows[:k]]) for k, row in enumerate(rows)])


def signs_number(row, n):
    # The signs of a row as the bits of one number: x of each wire, then z of each wire.
    return row[XS] | row[ZS] << n


def letters_of(row, n):
    minus = "-" if row[MINUS] == 1 else "+"
    return minus + "".join([sign_at(row, k) for k in range(n)])


def sign_at(row, k):
    return SIGNS[bit_at(row[XS], k) + 2 * bit_at(row[ZS], k)]


def row_of(text):
    if not isinstance(text, str):
        raise NoText("a row is read from a text")
    if len(text) < 2 or len(text) > 1 + MOST_WIRES:
        raise NoText("a row's text has one to forty signs behind its + or -")
    if text[0] != "+" and text[0] != "-":
        raise NoText("a row's text has a + or - ahead")
    xs = 0
    zs = 0
    for k, sign in enumerate(text[1:]):
        place = SIGNS.find(sign)
        if place < 0:
            raise NoText("the signs of a row's text are x, y, z and the point")
        xs = xs | (place & 1) << k
        zs = zs | (place >> 1) << k
    return (1 if text[0] == "-" else 0, xs, zs)
