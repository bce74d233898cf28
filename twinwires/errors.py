"""The refusals of the program, one class for each.

Each stands straight under WireError, so that taking one never takes another.
"""


class WireError(ValueError):
    # any refusal
    pass


class NoWires(WireError):
    # a number of wires that a machine can't have
    pass


class NoRow(WireError):
    # what is no row of signs for the wires
    pass


class NoProduct(WireError):
    # two rows that don't go beside one another
    pass


class NoDeed(WireError):
    # what are no words of a deed
    pass


class NoWire(WireError):
    # a number that is no wire's
    pass


class NoLook(WireError):
    # a row that nothing is looked at by
    pass


class NoWhole(WireError):
    # rows that are not those of a whole
    pass


class NoCode(WireError):
    # what makes no code
    pass


class NoMend(WireError):
    # signs that no wrong so light has
    pass


class NoText(WireError):
    # what is not written as a text has to be
    pass


class NoLine(WireError):
    # what is none of the desk's rows
    pass
