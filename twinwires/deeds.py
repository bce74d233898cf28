"""Deeds on one or two wires: their words, and what they make of wholes and of rows of signs."""

from twinwires.bits import bit_at, is_whole_number
from twinwires.errors import NoDeed, NoWire
from twinwires.parts import add_at, times_i, without_noughts
from twinwires.rows import MINUS, XS, ZS

# The words of deeds, and how many wires each is done on.
WIRES_BEHIND = {"over": 1, "quarter": 1, "back": 1, "both": 1, "where": 2, "swap": 2}


class Deed:
    # What all deeds have alike; on_row and on_whole are each one's own.
    def __init__(self, word, undoer, at):
        self.word = word
        self.undoer = undoer
        self.at = at

    def words(self):
        return (self.word,) + self.at

    def wires(self):
        return list(self.at)

    def undoing(self):
        return [(self.undoer,) + self.at]


class Over(Deed):
    def __init__(self, k):
        Deed.__init__(self, "over", "over", (k,))

    def on_row(self, row):
        return (row[MINUS] ^ bit_at(row[ZS], self.at[0]), row[XS], row[ZS])

    def on_whole(self, whole):
        bit = 1 << self.at[0]
        return moved(whole, lambda b: b ^ bit)


class Quarter(Deed):
    def __init__(self, k):
        Deed.__init__(self, "quarter", "back", (k,))

    def on_row(self, row):
        k = self.at[0]
        x = bit_at(row[XS], k)
        z = bit_at(row[ZS], k)
        return (row[MINUS] ^ (x & z), row[XS], row[ZS] ^ (x << k))

    def on_whole(self, whole):
        return turned_where_down(whole, self.at[0], 1)


class Back(Deed):
    def __init__(self, k):
        Deed.__init__(self, "back", "quarter", (k,))

    def on_row(self, row):
        k = self.at[0]
        x = bit_at(row[XS], k)
        z = bit_at(row[ZS], k)
        return (row[MINUS] ^ (x & (1 - z)), row[XS], row[ZS] ^ (x << k))

    def on_whole(self, whole):
        return turned_where_down(whole, self.at[0], 3)


class Both(Deed):
    def __init__(self, k):
        Deed.__init__(self, "both", "both", (k,))

    def on_row(self, row):
        k = self.at[0]
        x = bit_at(row[XS], k)
        z = bit_at(row[ZS], k)
        unlike = (x ^ z) << k
        return (row[MINUS] ^ (x & z), row[XS] ^ unlike, row[ZS] ^ unlike)

    def on_whole(self, whole):
        bit = 1 << self.at[0]
        told = {}
        for b, pair in whole.items():
            down = b | bit
            add_at(told, down ^ bit, pair)
            add_at(told, down, times_i(pair, 2) if b == down else pair)
        return without_noughts(told)


class Where(Deed):
    def __init__(self, j, k):
        Deed.__init__(self, "where", "where", (j, k))

    def on_row(self, row):
        j = self.at[0]
        k = self.at[1]
        x = bit_at(row[XS], j)
        z = bit_at(row[ZS], k)
        # x at j meets z at k, or y meets y: the other signs of the two wires are alike.
        alike = 1 - (bit_at(row[ZS], j) ^ bit_at(row[XS], k))
        return (row[MINUS] ^ (x & z & alike), row[XS] ^ (x << k), row[ZS] ^ (z << j))

    def on_whole(self, whole):
        j = self.at[0]
        k = self.at[1]
        return moved(whole, lambda b: b ^ (bit_at(b, j) << k))


class Swap(Deed):
    def __init__(self, j, k):
        Deed.__init__(self, "swap", "swap", (j, k))

    def on_row(self, row):
        j = self.at[0]
        k = self.at[1]
        return (row[MINUS], exchanged(row[XS], j, k), exchanged(row[ZS], j, k))

    def on_whole(self, whole):
        j = self.at[0]
        k = self.at[1]
        return moved(whole, lambda b: exchanged(b, j, k))


def exchanged(number, j, k):
    unlike = bit_at(number, j) ^ bit_at(number, k)
    return number ^ (unlike << j) ^ (unlike << k)


def moved(whole, place_of):
    told = {}
    for b, pair in whole.items():
        told[place_of(b)] = pair
    return without_noughts(told)


def turned_where_down(whole, k, often):
    told = {}
    for b, pair in whole.items():
        told[b] = times_i(pair, often * bit_at(b, k))
    return without_noughts(told)


def deed_of(words, n):
    deed = deed_of_words(words)
    if max(deed.wires()) >= n:
        raise NoWire("a deed is done on wires that are there")
    return deed


def deed_of_words(words):
    # For where nothing is known of the wires but that there are enough.
    check_words(words)
    if min(words[1:]) < 0:
        raise NoWire("the wires are numbered from 0")
    word = words[0]
    if word == "over":
        return Over(words[1])
    if word == "quarter":
        return Quarter(words[1])
    if word == "back":
        return Back(words[1])
    if word == "both":
        return Both(words[1])
    if word == "where":
        return Where(words[1], words[2])
    return Swap(words[1], words[2])


def check_words(words):
    if not isinstance(words, tuple) or len(words) == 0:
        raise NoDeed("the words of a deed are a tuple")
    # A dict can't be asked for a thing of every kind, but for every text.
    if not isinstance(words[0], str) or words[0] not in WIRES_BEHIND:
        raise NoDeed("no deed is told by this word")
    at = words[1:]
    if len(at) != WIRES_BEHIND[words[0]]:
        raise NoDeed("a deed is done on one wire, or on two, as its word asks")
    if not all([is_whole_number(k) for k in at]):
        raise NoDeed("the wires of a deed are told by whole numbers")
    if len(at) == 2 and at[0] == at[1]:
        raise NoDeed("a deed on two wires is done on unlike ones")
