"""The machine of rows: it keeps rows of signs that leave the whole as it is."""

from twinwires.bits import MOST_WIRES
from twinwires.machines import Machine
from twinwires.rows import XS, ZS, goes_beside, times
from twinwires.tellings import made_of


class Signs(Machine):
    def __init__(self, n):
        Machine.__init__(self, n, MOST_WIRES)
        self.kept = [(0, 0, 1 << k) for k in range(n)]

    def rows(self):
        return list(self.kept)

    def follow(self, deed):
        self.kept = [deed.on_row(row) for row in self.kept]

    def sure_value(self, row):
        # A row beside all kept ones is a product of some of them, or its minus is; any other row is not.
        found = made_of(self.kept, row)
        return None if found is None else found[1]

    def settle(self, row, value):
        staying = [other for other in self.kept if goes_beside(other, row)]
        crossing = [other for other in self.kept if not goes_beside(other, row)]
        # Two rows that don't go beside the row make a product that does.
        mended = [times(crossing[0], other) for other in crossing[1:]]
        self.kept = staying + mended + [(value, row[XS], row[ZS])]
