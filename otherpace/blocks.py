"""The second half of a way to a plain web.

All items of row 0 of the surplus are equal, and divide all items. The block has what the items of
the other rows are more than the first one of their row. Row 0 can be added to each row, so that all
items are great enough, without a change of the block; so the block's rows and columns can be added
and taken away freely.
"""

from otherpace.lattices import is_divided
from otherpace.levels import times_for


def block_item(way, i, j):
    """An item of the block, with i and j from 1 on."""
    row = way.table[i]
    return row[j] - int(i == j) - row[0]


def raise_row(way, i, missing):
    """Add row 0 to a row as often as its items need so much more."""
    way.add_row(i, 0, max(0, times_for(missing, way.table[0][1])))


def add_block_row(way, i, k, times):
    """Add a row k of the block so many times to a row i."""
    pairs = list(zip(way.surplus(i), way.surplus(k)))
    raise_row(way, i, max([1 - item - times * other for item, other in pairs]))
    way.add_row(i, k, times)
    way.lower_rows()


def add_block_column(way, j, k, times):
    """Add a column k of the block so many times to a column j."""
    for i in range(1, len(way.table)):
        row = way.surplus(i)
        raise_row(way, i, 1 - row[j] - times * (row[k] - row[0]))
    # What column k brings into row 0, column 0 takes away. First comes what is added.
    steps = ((k, times), (0, -times)) if times > 0 else ((0, -times), (k, times))
    for column, many in steps:
        way.add_column(j, column, many)
    way.lower_rows()


def square_block(way):
    """Bring the block to items on the diagonal only, each of which divides the next one, and all
    but the last one from 0 on."""
    for at in range(1, len(way.table)):
        while not is_squared(way, at):
            square_step(way, at)


def is_squared(way, at):
    """Whether an item of the block's diagonal divides all items behind it and is alone in its row
    and its column among them, and not below 0 unless it is the last one."""
    behind = list(range(at + 1, len(way.table)))
    item = block_item(way, at, at)
    if any([block_item(way, at, other) != 0 or block_item(way, other, at) != 0 for other in behind]):
        return False
    if item < 0 and behind:
        return False
    return unfit_block_row(way, at) == 0


def unfit_block_row(way, at):
    """The first row behind with an item, behind too, that an item of the block's diagonal does not
    divide; 0 if there is none."""
    behind = list(range(at + 1, len(way.table)))
    item = block_item(way, at, at)
    for i in behind:
        if not all([is_divided(block_item(way, i, j), item) for j in behind]):
            return i
    return 0


def square_step(way, at):
    """One step to a block that is square as far as a place of the diagonal."""
    rooms = list(range(at, len(way.table)))
    cells = [(abs(block_item(way, i, j)), i, j) for i in rooms for j in rooms]
    _, i, j = min([cell for cell in cells if cell[0] > 0])
    if clear_cross(way, at, i, j):
        return
    if (i, j) != (at, at):
        bring_to(way, at, i, j)
    elif unfit_block_row(way, at) > 0:
        add_block_row(way, at, unfit_block_row(way, at), 1)
    elif block_item(way, at, at) < 0:
        # Another row takes the sign, and the last item of all keeps it.
        add_block_row(way, at + 1, at, -1)
        add_block_row(way, at, at + 1, 2)
        add_block_row(way, at + 1, at, -1)


def clear_cross(way, at, i, j):
    """Bring the other items in the row and the column of an item nearer to 0, by multiples of it;
    whether any of them is not 0 then."""
    item = block_item(way, i, j)
    lines = [line for line in range(at, len(way.table)) if line != i]
    columns = [column for column in range(at, len(way.table)) if column != j]
    for line in lines:
        add_block_row(way, line, i, -nearest(block_item(way, line, j), item))
    for column in columns:
        add_block_column(way, column, j, -nearest(block_item(way, i, column), item))
    left = [block_item(way, line, j) for line in lines] + [block_item(way, i, column) for column in columns]
    return any([part != 0 for part in left])


def nearest(item, divisor):
    """How often a divisor is to be taken away from an item, so that what is left is near to 0."""
    times, rest = divmod(item, divisor)
    return times + int(2 * abs(rest) > abs(divisor))


def bring_to(way, at, i, j):
    """Bring an item that is alone in its row and its column to a place of the diagonal, above 0."""
    if i != at:
        sign = 1 if block_item(way, i, j) > 0 else -1
        # Both rows change places, one of them with the other sign.
        add_block_row(way, at, i, sign)
        add_block_row(way, i, at, -sign)
        add_block_row(way, at, i, sign)
    if j != at:
        sign = 1 if block_item(way, at, j) > 0 else -1
        add_block_column(way, at, j, sign)
        add_block_column(way, j, at, -sign)
        add_block_column(way, at, j, sign)
