"""Rows that are sums of multiples of the rows of a table, by integers alone."""

from otherpace.tables import unit_table


def stairs_of(table):
    """The list of the stairs of all sums of multiples of the rows: each row's first item that is
    not 0 is above 0 and stands behind those of the rows before it, whose items there are less."""
    left = [list(row) for row in table]
    found = []
    for at in range(len(table[0])):
        row = led_together(left, at)
        if row:
            left = [other for other in left if other[at] == 0]
            found = [without_lead(other, row, at) for other in found]
            found.append(row)
    return found


def led_together(rows, at):
    """Change rows so that at most one of them has an item at a place that is not 0, and return this
    one with this item above 0, [] if there is none. (Euclid's way.)"""
    while True:
        places = [place for place in range(len(rows)) if rows[place][at] != 0]
        if not places:
            return []
        least = min([(abs(rows[place][at]), place) for place in places])[1]
        if len(places) == 1:
            return rows[least] if rows[least][at] > 0 else [-item for item in rows[least]]
        for place in places:
            if place != least:
                rows[place] = without_lead(rows[place], rows[least], at)


def without_lead(row, other, at):
    """The row less the other one so many times that its item at a place is a remainder."""
    times = row[at] // other[at]
    return [x - times * y for x, y in zip(row, other)]


def lead_of(row):
    """The place of the first item that is not 0."""
    return min([at for at in range(len(row)) if row[at] != 0])


def plain_by(stairs, row):
    """The list that differs from a row by a sum of multiples of the stairs and has items below
    their leads."""
    found = list(row)
    for step in stairs:
        found = without_lead(found, step, lead_of(step))
    return found


def diagonal_frame(table):
    """For a table M with as many rows as columns the list of the rows of a table of four parts.

    They are D and U, and below V and zeros, where D is U M V and has items on its diagonal only,
    from 0 on, each of which divides the next one. U and V have the determinant 1 or -1.
    (H. Smith's way.)
    """
    many = len(table)
    units = unit_table(many)
    zeros = [0] * many
    frame = [list(row) + list(unit) for row, unit in zip(table, units)]
    frame.extend([list(unit) + zeros for unit in units])
    for at in range(many):
        while not is_settled(frame, many, at):
            bring_forward(frame, many, at)
            clear_rows(frame, many, at)
            clear_columns(frame, many, at)
            join_row(frame, many, at)
        if frame[at][at] < 0:
            frame[at] = [-item for item in frame[at]]
    return frame


def is_settled(frame, many, at):
    """Whether an item of the diagonal divides all items behind it, and is alone in its row and its
    column among them."""
    behind = list(range(at + 1, many))
    if any([frame[at][other] != 0 or frame[other][at] != 0 for other in behind]):
        return False
    return all([is_divided(frame[i][j], frame[at][at]) for i in behind for j in behind])


def is_divided(item, divisor):
    """Whether an integer is a multiple of another one; only 0 is one of 0."""
    return item == 0 if divisor == 0 else item % divisor == 0


def bring_forward(frame, many, at):
    """Exchange rows and columns so that the least item behind a place of the diagonal, by its
    absolute value, of those that are not 0 comes to this place."""
    rooms = list(range(at, many))
    _, i, j = min([(abs(frame[i][j]), i, j) for i in rooms for j in rooms if frame[i][j] != 0])
    frame[at], frame[i] = frame[i], frame[at]
    end = 2 * many
    for place in range(end):
        row = list(frame[place])
        row[at], row[j] = row[j], row[at]
        frame[place] = row


def clear_rows(frame, many, at):
    """Subtract multiples of the row of a place of the diagonal from all rows behind it."""
    for other in range(at + 1, many):
        frame[other] = without_lead(frame[other], frame[at], at)


def clear_columns(frame, many, at):
    """Subtract multiples of the column of a place of the diagonal from all columns behind it."""
    times = [frame[at][other] // frame[at][at] for other in range(at + 1, many)]
    end = 2 * many
    for place in range(end):
        row = frame[place]
        behind = [item - many_times * row[at] for item, many_times in zip(row[at + 1:many], times)]
        frame[place] = row[:at + 1] + behind + row[many:]


def join_row(frame, many, at):
    """Add a row with an item that the item of the diagonal does not divide to the row of this, if
    nothing else stands in its row and its column."""
    behind = list(range(at + 1, many))
    if any([frame[at][other] != 0 or frame[other][at] != 0 for other in behind]):
        return
    for i in behind:
        if not all([is_divided(frame[i][j], frame[at][at]) for j in behind]):
            frame[at] = [x + y for x, y in zip(frame[at], frame[i])]
            return
