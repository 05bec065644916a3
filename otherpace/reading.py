"""Rounds led from a web to the one that a deed makes, and back, without a list of all arrows.

Of both webs one is finer: each arrow of the other one stands for a walk of it. The rounds of the
finer one are at least as long. For the deeds "unafter", "unbefore" and "stretch" the finer web is
the result, for the others it is the web that the deed comes to.

With "after", done so many times, the arrows that are taken out, and those that stay, are named by
the sequence in which they were put in: first those of the finer web from i to j; then for the one
with each number the arrows from j to j behind it. So each one stands for an arrow from i to j and
arrows from j to j, and the first ones are those that were taken out.
"""

from otherpace.doing import mirrored
from otherpace.tables import turned


def longer(web, deed, lap, most):
    """The round of the finer web for which a round stands, from any of its arrows on; only some of
    it, but more arrows than most, if it has so many."""
    if deed[0] in ("before", "unbefore"):
        return turned_round(longer(turned(web), mirrored(deed), turned_round(lap), most))
    found = []
    for arrow in lap:
        found.extend(walk_behind(web, deed, arrow, most))
        if len(found) > most:
            break
    return tuple(found)


def turned_round(lap):
    """A round in the turned web."""
    return tuple([(j, i, k) for i, j, k in reversed(lap)])


def walk_behind(web, deed, arrow, most):
    """The walk of the finer web for which an arrow stands, as a list; only its end if it has more
    arrows than most."""
    if deed[0] == "pass":
        return pass_walk(web, deed[1], arrow)
    if deed[0] == "stretch":
        return stretch_walk(web, deed, arrow)
    if deed[0] == "turn":
        order = deed[1]
        return [(order[arrow[0]], order[arrow[1]], arrow[2])]
    return after_walk(web, deed, arrow, most)


def after_walk(web, deed, arrow, most):
    """The same for "after" and "unafter"."""
    _, i, j, times = deed
    if arrow[0] != i or (arrow[1] != j and arrow[2] < web[i][arrow[1]]):
        return [arrow]
    walk = []
    number = times + arrow[2]
    if arrow[1] != j:
        number, last = divmod(arrow[2] - web[i][arrow[1]], web[j][arrow[1]])
        walk.append((j, arrow[1], last))
    # The walk may be so long that nobody wants its beginning.
    while number >= web[i][j] and len(walk) <= most:
        number, last = divmod(number - web[i][j], web[j][j])
        walk.append((j, j, last))
    walk.append((i, j, number))
    return list(reversed(walk))


def pass_walk(web, gone, arrow):
    """The same for "pass"."""
    i = arrow[0] + int(arrow[0] >= gone)
    j = arrow[1] + int(arrow[1] >= gone)
    if arrow[2] < web[i][j]:
        return [(i, j, arrow[2])]
    first, last = divmod(arrow[2] - web[i][j], web[gone][j])
    return [(i, gone, first), (gone, j, last)]


def stretch_walk(web, deed, arrow):
    """The same for "stretch"."""
    _, i, j = deed
    if arrow[:2] != (i, j):
        return [arrow]
    if arrow[2] > 0:
        return [(i, j, arrow[2] - 1)]
    return [(i, len(web) - 1, 0), (len(web) - 1, j, 0)]


def shorter(web, deed, lap):
    """The round that stands for a round of the finer web, from any of its arrows on."""
    if deed[0] in ("before", "unbefore"):
        return turned_round(shorter(turned(web), mirrored(deed), turned_round(lap)))
    if deed[0] == "pass":
        return pass_shorter(web, deed[1], lap)
    if deed[0] == "stretch":
        return stretch_shorter(web, deed, lap)
    if deed[0] == "turn":
        order = deed[1]
        return tuple([(order.index(i), order.index(j), k) for i, j, k in lap])
    return after_shorter(web, deed, lap)


def begun_at(lap, starts):
    """The turn of a round that begins with the first arrow for which the row has True, the round
    itself if there is none."""
    start = starts.index(True) if True in starts else 0
    return lap[start:] + lap[:start]


def after_shorter(web, deed, lap):
    """The round that stands for a round of the finer web, for "after" and "unafter"."""
    _, i, j, times = deed
    found = []
    number = -1
    # No arrow from i lies within a walk for which another arrow stands.
    for arrow in begun_at(lap, [step[0] == i for step in lap]):
        if number < 0 and arrow[:2] == (i, j):
            number = arrow[2]
        elif number < 0:
            found.append(arrow)
        elif arrow[1] == j:
            number = web[i][j] + number * web[j][j] + arrow[2]
        else:
            found.append((i, arrow[1], web[i][arrow[1]] + number * web[j][arrow[1]] + arrow[2]))
            number = -1
        if number >= times:
            found.append((i, j, number - times))
            number = -1
    return tuple(found)


def pass_shorter(web, gone, lap):
    """The same for "pass"."""
    found = []
    start, first = gone, 0
    for i, j, k in begun_at(lap, [step[0] != gone for step in lap]):
        if j == gone:
            start, first = i, k
        else:
            place = k if i != gone else web[start][j] + first * web[gone][j] + k
            home = i if i != gone else start
            found.append((home - int(home > gone), j - int(j > gone), place))
    return tuple(found)


def stretch_shorter(web, deed, lap):
    """The same for "stretch"."""
    _, i, j = deed
    fresh = len(web) - 1
    found = []
    for arrow in begun_at(lap, [step[0] != fresh for step in lap]):
        if arrow[0] == fresh:
            found.append((i, j, 0))
        elif arrow[:2] == (i, j):
            found.append((i, j, arrow[2] + 1))
        elif arrow[1] != fresh:
            found.append(arrow)
    return tuple(found)
