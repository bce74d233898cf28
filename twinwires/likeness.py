"""Works that do the same: their images, what parts them, and works made shorter."""

from twinwires.bits import bit_at
from twinwires.deeds import Swap
from twinwires.rows import XS, ZS
from twinwires.works import deeds_in, row_behind, row_by, undone


def images(work, n):
    deeds = deeds_in(work, n)
    return [row_by(deeds, row) for row in single_letters(n)]


def single_letters(n):
    told = []
    for k in range(n):
        told.append((0, 0, 1 << k))
        told.append((0, 1 << k, 0))
    return told


def alike(one, other, n):
    return images(one, n) == images(other, n)


def parted(one, other, n):
    images_of_one = images(one, n)
    images_of_other = images(other, n)
    for place, letter in enumerate(single_letters(n)):
        row = images_of_one[place]
        if row != images_of_other[place]:
            # The row that becomes by the other work what the letter becomes by the one.
            rival = row_behind(undone(other), row, n)
            return (beginning_with(letter, rival, place // 2, n), row)
    return None


def beginning_with(letter, rival, k, n):
    # The letter at wire k is to leave the whole as it is, and the rival isn't. So each other wire on which
    # the rival has a letter gets an unlike one: z, as all wires have at first, or x by both.
    turned = [j for j in range(n) if j != k and bit_at(rival[ZS], j) == 1]
    if letter[XS] != 0:
        turned.append(k)
    return [("both", j) for j in turned]


def shorter(work, n):
    kept = []
    for deed in deeds_in(work, n):
        place = last_touching(kept, deed)
        if place is not None and undo_one_another(kept[place], deed):
            kept.pop(place)
        else:
            kept.append(deed)
    return [deed.words() for deed in kept]


def last_touching(deeds, deed):
    touching = [place for place, other in enumerate(deeds) if share_a_wire(other, deed)]
    return touching[-1] if touching != [] else None


def share_a_wire(one, other):
    return any([k in other.wires() for k in one.wires()])


def undo_one_another(one, other):
    if isinstance(one, Swap) and isinstance(other, Swap):
        return sorted(one.wires()) == sorted(other.wires())
    return one.undoing() == [other.words()]
