"""Tables of arrows and webs, and their texts."""

from otherpace.digits import is_natural_word, natural_of, natural_word
from otherpace.errors import BadLength, BadOrder, BadTable, BadText, BadWeb
from otherpace.kinds import is_integer_from, is_order, is_row_from
from otherpace.tables import table_power, turned

MOST_ROOMS = 8


def is_table(thing):
    """Whether any value is a table of arrows."""
    if not isinstance(thing, tuple) or not 1 <= len(thing) <= MOST_ROOMS:
        return False
    return all([is_row_from(row, len(thing), 0) for row in thing])


def is_web(thing):
    """Whether any value is a web."""
    return is_table(thing) and fault_of(thing) is None


def check_web(web):
    """Raise BadWeb for any value that is not a web."""
    if not is_web(web):
        raise BadWeb(web)


def web_fault(table):
    """The fault of a table of arrows, None if it is a web."""
    if not is_table(table):
        raise BadTable(table)
    return fault_of(table)


def fault_of(table):
    """The same as web_fault, for what is surely a table of arrows."""
    for i in range(len(table)):
        reached = reached_from(table, i)
        for j in range(len(table)):
            if j not in reached:
                return ("apart", i, j)
    if max([sum(row) for row in table]) < 2:
        return ("ring",)
    return None


def reached_from(table, start):
    """The list of the rooms to which walks of at least one arrow lead from a room."""
    reached = []
    waiting = [start]
    while waiting:
        room = waiting.pop()
        for other in range(len(table)):
            if table[room][other] > 0 and other not in reached:
                reached.append(other)
                waiting.append(other)
    return reached


def arrows(web):
    """The ascending tuple of the arrows of a web."""
    check_web(web)
    return arrows_of(web)


def arrows_of(web):
    """The same as arrows, for what is surely a web."""
    rooms = list(range(len(web)))
    return tuple([(i, j, k) for i in rooms for j in rooms for k in range(web[i][j])])


def arrows_many(web):
    """How many arrows a web has, which may be far too many to list them."""
    return sum([sum(row) for row in web])


def turned_web(web):
    """The web with all arrows the other way round."""
    check_web(web)
    return turned(web)


def renamed_web(web, order):
    """The web whose room i is the room order[i] of this web."""
    check_web(web)
    if not is_order(order, len(web)):
        raise BadOrder(order)
    return tuple([tuple([web[i][j] for j in order]) for i in order])


def power(web, length):
    """The power of the table of a web: how many walks of this length lead from room to room."""
    check_web(web)
    if not is_integer_from(length, 0):
        raise BadLength(length)
    return table_power(web, length)


def web_text(web):
    """The text of a web."""
    check_web(web)
    lines = [" ".join([natural_word(item) for item in row]) for row in web]
    return "\n".join([f"web {len(web)}", *lines])


def web_of(text):
    """The web of a text."""
    if not isinstance(text, str):
        raise BadText(0)
    lines = text.split("\n")
    many = rooms_told(lines[0])
    if many == 0:
        raise BadText(1)
    end = first_bad_line(lines, many)
    table = tuple([row_of(line) for line in lines[1:end - 1]])
    if len(table) < many or len(lines) > many + 1 or not is_web(table):
        raise BadText(end)
    return table


def rooms_told(line):
    """The number of rooms that the first line of the text of a web tells, 0 if it is no such line."""
    for many in range(1, MOST_ROOMS + 1):
        if line == f"web {many}":
            return many
    return 0


def first_bad_line(lines, many):
    """The number of the first line that is no row of a web of so many rooms, which may be the
    line after the last one."""
    for number in range(2, many + 2):
        if number > len(lines) or not is_row_line(lines[number - 1], many):
            return number
    return many + 2


def is_row_line(line, many):
    """Whether a line is the text of so many integers from 0 on."""
    words = line.split(" ")
    return len(words) == many and all([is_natural_word(word) for word in words])


def row_of(line):
    """The row that a line of integers from 0 on tells."""
    return tuple([natural_of(word) for word in line.split(" ")])
