"""Ways from a web to others, deed by deed.

The surplus of a web is its table less one on the diagonal. "after" adds a row of it to another row,
"before" a column to another column; "unafter" and "unbefore" take them away. Where all items of the
surplus are at least 1 before and afterwards, all of these can be done.
"""

from otherpace.doing import done_of


class Way:
    """A web that deeds change, and the chain of the deeds that were done."""

    def __init__(self, table):
        self.table = table
        self.chain = []

    def go(self, deed):
        """Do a deed that surely can be done."""
        self.table = done_of(self.table, deed)
        self.chain.append(deed)

    def surplus(self, i):
        """The list of a row of the surplus."""
        return [item - int(i == j) for j, item in enumerate(self.table[i])]

    def add_row(self, i, j, times):
        """Add a row j of the surplus so many times to a row i; times may be below 0."""
        if times > 0:
            self.go(("after", i, j, times))
        if times < 0:
            self.go(("unafter", i, j, -times))

    def add_column(self, j, i, times):
        """Add a column i of the surplus so many times to a column j; times may be below 0."""
        if times > 0:
            self.go(("before", i, j, times))
        if times < 0:
            self.go(("unbefore", i, j, -times))

    def lower_rows(self):
        """Take row 0 of the surplus, in which all items are above 0, away from the other rows as
        often as all items stay above 0."""
        first = self.surplus(0)
        end = len(first)
        for i in range(1, end):
            times = min([(item - 1) // step for item, step in zip(self.surplus(i), first)])
            self.add_row(i, 0, -times)
