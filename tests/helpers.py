"""What the tests have in common: things to hand in, and the document's words reckoned in the plainest way.

Nothing here draws on the package: what it tells is held against this.
"""

import functools
import unittest

# The six words of deeds, and on how many wires each is done.
DEEDS = {"over": 1, "quarter": 1, "back": 1, "both": 1, "where": 2, "swap": 2}


class Refusing(unittest.TestCase):
    def refused(self, kind, call, *args):
        """The class itself is asked for: no other one under it, or above it, will do."""
        with self.assertRaises(kind) as taken:
            call(*args)
        self.assertIs(type(taken.exception), kind)


# Rows of signs (points 4 to 6)

def all_rows(n):
    return [(minus, xs, zs) for minus in (0, 1) for xs in range(1 << n) for zs in range(1 << n)]


def random_row(chance, n):
    return (chance.getrandbits(1), chance.getrandbits(n), chance.getrandbits(n))


def random_look(chance, n):
    while True:
        row = (0, chance.getrandbits(n), chance.getrandbits(n))
        if row != (0, 0, 0):
            return row


def random_pair(chance, n, beside):
    while True:
        one = random_row(chance, n)
        other = random_row(chance, n)
        if beside_by_letters(one, other, n) == beside:
            return one, other


def letter_at(row, k):
    x, z = row[1] >> k & 1, row[2] >> k & 1
    return (("", "z"), ("x", "y"))[x][z]


def row_of_letters(minus, letters):
    """letters: a dict from wires to x, y, z."""
    xs = sum(1 << k for k, letter in letters.items() if letter in ("x", "y"))
    zs = sum(1 << k for k, letter in letters.items() if letter in ("z", "y"))
    return (minus, xs, zs)


def minus_of(row):
    return (1 - row[0], row[1], row[2])


def beside_by_letters(one, other, n):
    """Two letters at one wire don't go beside one another where they are unlike."""
    shared = (one[1] | one[2]) & (other[1] | other[2])
    wires = [k for k in range(n) if shared >> k & 1]
    return sum(1 for k in wires if letter_at(one, k) != letter_at(other, k)) % 2 == 0


def done(row, number, n):
    """Point 5, wire by wire: the number reached, and how many times i the factor is (0 to 3)."""
    quarters = 2 * row[0]
    for k in range(n):
        letter = letter_at(row, k)
        if letter in ("z", "y") and number >> k & 1:
            quarters += 2
        if letter == "y":
            quarters += 1
    for k in range(n):
        if letter_at(row, k) in ("x", "y"):
            number ^= 1 << k
    return number, quarters % 4


def done_both(first, second, number, n):
    """What the two rows do one behind the other."""
    reached, quarters = done(first, number, n)
    reached, more = done(second, reached, n)
    return reached, (quarters + more) % 4


# Wholes (points 5, 9, 13 to 17)

def by_i(pair, often):
    for turn in range(often):
        pair = (-pair[1], pair[0])
    return pair


def by_row(row, whole, n):
    """Point 5: what the row makes of the whole."""
    told = {}
    for b, pair in whole.items():
        reached, quarters = done(row, b, n)
        told[reached] = by_i(pair, quarters)
    return told


def by_deed(words, whole):
    """Point 9, number by number."""
    told = {}

    def put(b, pair):
        before = told.get(b, (0, 0))
        told[b] = (before[0] + pair[0], before[1] + pair[1])

    name, wires = words[0], words[1:]
    j, k = wires[0], wires[-1]
    for b, (re, im) in whole.items():
        down = b >> k & 1 == 1
        if name == "over":
            put(b ^ (1 << k), (re, im))
        elif name == "quarter":
            put(b, (-im, re) if down else (re, im))
        elif name == "back":
            put(b, (im, -re) if down else (re, im))
        elif name == "both" and down:
            put(b - (1 << k), (re, im))
            put(b, (-re, -im))
        elif name == "both":
            put(b, (re, im))
            put(b + (1 << k), (re, im))
        elif name == "where":
            put(b ^ (1 << k) if b >> j & 1 else b, (re, im))
        else:
            rest = b & ~(1 << j) & ~(1 << k)
            put(rest | (b >> j & 1) << k | (b >> k & 1) << j, (re, im))
    return {b: pair for b, pair in told.items() if pair != (0, 0)}


def by_work(work, whole):
    for words in work:
        whole = by_deed(words, whole)
    return whole


def sum_of(one, other, factor=1):
    """The one and factor times the other one, added up."""
    told = {}
    for b in set(one) | set(other):
        a, c = one.get(b, (0, 0)), other.get(b, (0, 0))
        pair = (a[0] + factor * c[0], a[1] + factor * c[1])
        if pair != (0, 0):
            told[b] = pair
    return told


def weight(whole):
    return sum(re ** 2 + im ** 2 for re, im in whole.values())


def times_pair(whole, factor):
    c, d = factor
    return {b: (re * c - im * d, re * d + im * c) for b, (re, im) in whole.items()}


def same_by_a_factor(one, other):
    """Point 16, by every two rows: a d is b c for all of them."""
    if set(one) != set(other):
        return False

    def product(p, q):
        return (p[0] * q[0] - p[1] * q[1], p[0] * q[1] + p[1] * q[0])

    return all(product(one[a], other[b]) == product(one[b], other[a]) for a in one for b in one)


def random_number(chance, figures):
    return chance.randint(-(10 ** figures) + 1, 10 ** figures - 1)


def random_whole(chance, n, figures, many=None):
    """A whole of any numbers, not one that comes of deeds."""
    many = many or chance.randint(1, 1 << n)
    told = {}
    for b in chance.sample(range(1 << n), many):
        pair = (0, 0)
        while pair == (0, 0):
            pair = tuple(chance.choice((0, random_number(chance, figures))) for part in range(2))
        told[b] = pair
    return told


# Works

def all_deeds(n):
    one = [(name, k) for name, wires in DEEDS.items() if wires == 1 for k in range(n)]
    two = [(name, j, k) for name, wires in DEEDS.items() if wires == 2 for j in range(n) for k in range(n) if j != k]
    return one + two


def random_deed(chance, n):
    names = [name for name, wires in DEEDS.items() if wires <= n]
    name = chance.choice(names)
    return (name,) + tuple(chance.sample(range(n), DEEDS[name]))


def random_work(chance, n, many):
    return [random_deed(chance, n) for turn in range(many)]


def random_work_with_looks(chance, n, many):
    told = []
    for turn in range(many):
        if chance.random() < 0.3:
            told.append(("look",) + random_look(chance, n)[1:])
        else:
            told.append(random_deed(chance, n))
    return told


# Rows of wholes (points 10, 19, 30)

BY_LETTER = {"over": {"x": "+x", "y": "-y", "z": "-z"}, "quarter": {"x": "+y", "y": "-x", "z": "+z"},
             "back": {"x": "-y", "y": "+x", "z": "+z"}, "both": {"x": "+z", "y": "-y", "z": "+x"}}


def where_row(row, j, k):
    """What a row becomes by where, by the words of point 10."""
    minus, xs, zs = row
    a, b = letter_at(row, j), letter_at(row, k)
    if a in ("x", "y") and b in ("z", "y") and ((a == "x" and b == "z") or (a == "y" and b == "y")):
        minus = 1 - minus
    if a in ("x", "y"):
        xs ^= 1 << k
    if b in ("z", "y"):
        zs ^= 1 << j
    return (minus, xs, zs)


def row_by_deed(words, row):
    """Point 10."""
    if words[0] == "where":
        return where_row(row, words[1], words[2])
    letters = {k: letter_at(row, k) for k in words[1:]}
    if words[0] == "swap":
        becomes = {words[1]: letters[words[2]], words[2]: letters[words[1]]}
        sign = "+"
    else:
        sign, letter = BY_LETTER[words[0]].get(letters[words[1]], "+.")
        becomes = {words[1]: letter}
    mask = sum(1 << k for k in letters)
    part = row_of_letters(row[0] ^ (sign == "-"), becomes)
    return (part[0], row[1] & ~mask | part[1], row[2] & ~mask | part[2])


def row_by_work(work, row):
    for words in work:
        row = row_by_deed(words, row)
    return row


def rows_of_work(work, n):
    """Rows of the whole that comes of all wires up by the work."""
    return [row_by_work(work, (0, 0, 1 << k)) for k in range(n)]


def count(number):
    return bin(number).count("1")


def product(one, other, n):
    """Point 6, by what the two do to the number 0: the other one meets the number xs of the one."""
    xs, zs = one[1] ^ other[1], one[2] ^ other[2]
    minuses = one[0] + other[0] + count(one[1] & other[2])
    quarters = (2 * minuses + count(one[1] & one[2]) + count(other[1] & other[2]) - count(xs & zs)) % 4
    assert quarters in (0, 2)
    return (quarters // 2, xs, zs)


def product_of_all(rows, n):
    told = (0, 0, 0)
    for row in rows:
        told = product(told, row, n)
    return told


def all_products(rows, n):
    told = [(0, 0, 0)]
    for row in rows:
        told += [product(other, row, n) for other in told]
    return told


def mixed(chance, rows, n):
    """Other rows of the same whole."""
    told = list(rows)
    for turn in range(3 * n if n > 1 else 0):
        one, other = chance.sample(range(n), 2)
        told[one] = product(told[one], told[other], n)
    chance.shuffle(told)
    return told


def random_rows_of_whole(chance, n, many=None):
    work = random_work(chance, n, 4 * n + 4 if many is None else many)
    return mixed(chance, rows_of_work(work, n), n)


def is_one_of(row, rows, n):
    """Whether the row, with its minus, is a product of some of the rows."""
    return left_of(row, reduced(tuple(rows), n), n) == (0, 0, 0)


@functools.lru_cache(maxsize=100)
def reduced(rows, n):
    kept = []
    for other in rows:
        left = left_of(other, kept, n)
        if letters_number(left):
            kept.append(left)
    return kept


def left_of(row, kept, n):
    for other in kept:
        number = letters_number(other)
        if letters_number(row) & number & -number:
            if not beside_by_letters(row, other, n):
                return row
            row = product(row, other, n)
    return row


def right_rows(rows, n):
    """Point 30."""
    beside = all(beside_by_letters(one, other, n) for one in rows for other in rows)
    return len(rows) == n and beside and rank_of_letters(rows) == n


def wrong_lists(chance, n):
    """Lists of rows that are refused with NoWhole."""
    rows = random_rows_of_whole(chance, n)
    told = [[], rows[:-1], rows + [rows[0]], rows + [(0, 0, 0)], rows + rows]
    for k in range(min(n, 5)):
        told.append(rows[:k] + [(0, 0, 0)] + rows[k + 1:])
        told.append(rows[:k] + [(1, 0, 0)] + rows[k + 1:])
        if n > 1:
            others = rows[:k] + rows[k + 1:]
            made = product_of_all(chance.sample(others, chance.randint(1, n - 1)), n)
            for row in (others[0], minus_of(others[0]), others[-1], made, minus_of(made)):
                told.append(rows[:k] + [row] + rows[k + 1:])
            crossing = next(row for row in iter(lambda: random_row(chance, n), None)
                            if not all(beside_by_letters(row, other, n) for other in others))
            told.append(rows[:k] + [crossing] + rows[k + 1:])
    if n > 1:
        one, other = random_pair(chance, n, False)
        told.append([one, other] + rows[2:])
    return told


# Sums of rows' letters

def letters_number(row):
    return row[1] | row[2] << 64


def rank(numbers):
    """How many of the numbers at most are such that none is a sum, bit by bit, of others."""
    kept = []
    for number in numbers:
        for other in kept:
            number = min(number, number ^ other)
        if number:
            kept.append(number)
    return len(kept)


def rank_of_letters(rows):
    return rank([letters_number(row) for row in rows])


class Drawn:
    """A drawer that counts how often it was called."""

    def __init__(self, *numbers):
        self.numbers = list(numbers)
        self.calls = 0

    def __call__(self):
        self.calls += 1
        return self.numbers[(self.calls - 1) % len(self.numbers)]
