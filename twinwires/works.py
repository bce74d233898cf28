"""Works: lists of words of deeds, done one behind the other."""

from twinwires.deeds import deed_of, deed_of_words


def deeds_in(work, n):
    return [deed_of(words, n) for words in work]


def row_behind(work, row, n):
    return row_by(deeds_in(work, n), row)


def row_by(deeds, row):
    behind = row
    for deed in deeds:
        behind = deed.on_row(behind)
    return behind


def undone(work):
    deeds = [deed_of_words(words) for words in work]
    told = []
    for deed in reversed(deeds):
        told.extend(deed.undoing())
    return told
