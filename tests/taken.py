"""The seven deeds, done arrow by arrow on a list of arrows, as the document tells them.

A web here is the number of its rooms and a dict from each of its arrows to what it stands for.
"""

from tests import plainly


class Plain:
    """A web whose arrows are taken out and put in one by one."""

    def __init__(self, web, row=None):
        self.rooms = len(web)
        arrows = plainly.arrows(web)
        self.worth = dict(zip(arrows, [(arrow,) for arrow in arrows] if row is None else row))

    def table(self):
        return tuple(tuple(self.many(i, j) for j in range(self.rooms)) for i in range(self.rooms))

    def many(self, i, j):
        return sum(arrow[:2] == (i, j) for arrow in self.worth)

    def row(self):
        return tuple(worth for _, worth in sorted(self.worth.items()))

    def between(self, i=None, j=None):
        """The ascending list of the arrows from i to j, or from any room, or to any room."""
        return sorted(arrow for arrow in self.worth if i in (None, arrow[0]) and j in (None, arrow[1]))

    def put(self, i, j, worth):
        self.worth[(i, j, self.many(i, j))] = worth

    def take_first(self, i, j):
        worths = [self.worth.pop(arrow) for arrow in self.between(i, j)]
        for worth in worths[1:]:
            self.put(i, j, worth)
        return worths[0]

    def after(self, i, j):
        first = self.take_first(i, j)
        for arrow in self.between(i=j):
            self.put(i, arrow[1], first + self.worth[arrow])

    def before(self, i, j):
        first = self.take_first(i, j)
        for arrow in self.between(j=i):
            self.put(arrow[0], j, self.worth[arrow] + first)

    def without(self, room):
        """Pass."""
        coming, going = self.between(j=room), self.between(i=room)
        for here in coming:
            for there in going:
                self.put(here[0], there[1], self.worth[here] + self.worth[there])
        for arrow in coming + going:
            del self.worth[arrow]
        self.rooms -= 1
        names = [at for at in range(self.rooms + 1) if at != room]
        self.worth = {(names.index(i), names.index(j), k): worth for (i, j, k), worth in self.worth.items()}

    def turn(self, order):
        self.worth = {(order.index(i), order.index(j), k): worth for (i, j, k), worth in self.worth.items()}


def is_deed(web, thing):
    def is_room(room):
        return type(room) is int and room in range(len(web))
    if type(thing) is not tuple or not thing or type(thing[0]) is not str:
        return False
    if thing[0] in ("after", "before", "unafter", "unbefore") and len(thing) == 4:
        _, i, j, times = thing
        return is_room(i) and is_room(j) and i != j and type(times) is int and times >= 1
    if thing[0] == "pass" and len(thing) == 2:
        return is_room(thing[1])
    if thing[0] == "stretch" and len(thing) == 3:
        return is_room(thing[1]) and is_room(thing[2])
    if thing[0] == "turn" and len(thing) == 2 and type(thing[1]) is tuple:
        return all(is_room(room) for room in thing[1]) and sorted(thing[1]) == list(range(len(web)))
    return False


def once(web, deed, row=None):
    """The plain web after a deed that is no "un-" deed and done once, None if it cannot be done."""
    plain = Plain(web, row)
    kind = deed[0]
    if kind in ("after", "before"):
        if not plain.many(*deed[1:3]):
            return None
        if kind == "after":
            plain.after(*deed[1:3])
        else:
            plain.before(*deed[1:3])
        return plain if plainly.is_web(plain.table()) else None
    if kind == "pass":
        if plain.many(deed[1], deed[1]) or len(web) < 2:
            return None
        plain.without(deed[1])
    elif kind == "stretch":
        _, i, j = deed
        if not plain.many(i, j) or len(web) > 7:
            return None
        plain.take_first(i, j)
        plain.rooms += 1
        plain.put(i, len(web), None)
        plain.put(len(web), j, None)
    else:
        plain.turn(deed[1])
    return plain


def unbound(web, deed):
    """The web of which the deed, without "un" and done once, makes this one, None if there is none.

    All webs are looked at whose row i, or column j, may fit.
    """
    kind, i, j = deed[:3]
    table = [list(row) for row in web]
    for at in range(len(web)):
        # Row j has the arrows from j that each taken arrow brought along.
        if kind == "unafter":
            table[i][at] -= table[j][at] - (at == j)
        else:
            table[at][j] -= table[at][i] - (at == i)
    found = tuple(map(tuple, table))
    if not plainly.is_web(found):
        return None
    made = once(found, (kind[2:], i, j, 1))
    return found if made and made.table() == web else None


def done(web, deed):
    """The web that a deed makes, None if it cannot be done: one time after the other."""
    if deed[0] in ("pass", "stretch", "turn"):
        plain = once(web, deed)
        return plain and plain.table()
    for _ in range(deed[3]):
        if deed[0].startswith("un"):
            web = unbound(web, deed)
        else:
            plain = once(web, deed)
            web = plain and plain.table()
        if web is None:
            return None
    return web


def standing(web, deed):
    """The walks for which the arrows of the result stand, or for which those of the web stand."""
    kind = deed[0]
    if kind.startswith("un"):
        return standing(done(web, deed), (kind[2:],) + deed[1:])
    if kind == "stretch":
        _, i, j = deed
        new = len(web)
        walks = {(i, j, 0): ((i, new, 0), (new, j, 0))}
        walks.update({(i, j, k): ((i, j, k - 1),) for k in range(1, web[i][j])})
        return tuple(walks.get(arrow, (arrow,)) for arrow in plainly.arrows(web))
    if kind in ("pass", "turn"):
        return once(web, deed).row()
    row = None
    for _ in range(deed[3]):
        plain = once(web, deed, row)
        web, row = plain.table(), plain.row()
    return row


def image_round(lap, walks, table):
    """The told round for which a round stands, walk by walk."""
    named = dict(zip(plainly.arrows(table), walks))
    return plainly.turns(tuple(step for arrow in lap for step in named[arrow]))[0]


def all_deeds(web, times=(1,)):
    rooms = range(len(web))
    for kind in ("after", "before", "unafter", "unbefore"):
        yield from ((kind, i, j, many) for i in rooms for j in rooms if i != j for many in times)
    yield from (("pass", room) for room in rooms)
    yield from (("stretch", i, j) for i in rooms for j in rooms)
    yield ("turn", tuple(reversed(rooms)))
    yield ("turn", tuple(rooms[1:]) + (0,))


def by_table(web, deed):
    """The web that a deed makes, None if it cannot be done: by tables, one time after the other."""
    kind = deed[0]
    if kind == "turn":
        return tuple(tuple(web[i][j] for j in deed[1]) for i in deed[1])
    if kind == "stretch":
        return done(web, deed)
    table = [list(row) for row in web]
    rooms = range(len(web))
    if kind == "pass":
        if web[deed[1]][deed[1]] or len(web) < 2:
            return None
        rooms = [room for room in rooms if room != deed[1]]
        return tuple(tuple(web[i][j] + web[i][deed[1]] * web[deed[1]][j] for j in rooms) for i in rooms)
    _, i, j, times = deed
    for _ in range(times):
        if not kind.startswith("un") and table[i][j] < 1:
            return None
        for at in rooms:
            sign = -1 if kind.startswith("un") else 1
            if kind.endswith("after"):
                table[i][at] += sign * (table[j][at] - (at == j))
            else:
                table[at][j] += sign * (table[at][i] - (at == i))
        if kind.startswith("un") and table[i][j] < 1 or min(map(min, table)) < 0:
            return None
    result = tuple(map(tuple, table))
    # On the way the rooms are joined as well as in the end, or better.
    return result if plainly.is_web(result) else None
