"""Whole numbers of two parts, (re, im), and wholes: dicts from rows of ups and downs to them."""


def times_i(pair, often):
    # i done four times is 1.
    turns = often % 4
    if turns == 1:
        return (-pair[1], pair[0])
    if turns == 2:
        return (-pair[0], -pair[1])
    if turns == 3:
        return (pair[1], -pair[0])
    return pair


def multiplied(one, other):
    return (one[0] * other[0] - one[1] * other[1], one[0] * other[1] + one[1] * other[0])


def add_at(whole, b, pair):
    before = whole.get(b, (0, 0))
    whole[b] = (before[0] + pair[0], before[1] + pair[1])


def without_noughts(whole):
    told = {}
    for b, pair in whole.items():
        if pair != (0, 0):
            told[b] = pair
    return told


def added(one, other):
    told = dict(one)
    for b, pair in other.items():
        add_at(told, b, pair)
    return without_noughts(told)
