"""What stands for the arrows of a web that a deed makes.

lists[i][j] is the list of what stands for the arrows from room i to room j, by their numbers:
walks, or prices. Two of them are put together by +.
"""

from otherpace.doing import mirrored
from otherpace.webs import arrows_of


def walks_for(web, deed):
    """The tuple of the walks for which the arrows of the result stand, for the deeds "after",
    "before", "pass" and "turn"."""
    lists = lists_led(listed(web, [(arrow,) for arrow in arrows_of(web)]), deed)
    walks = flat(lists)
    # The mirror puts the arrows of each walk in the opposite sequence.
    return tuple([tuple(reversed(walk)) for walk in walks]) if deed[0] == "before" else walks


def listed(web, row):
    """The lists of what a row has for each arrow."""
    lists = []
    used = 0
    for line in web:
        parts = []
        for many in line:
            parts.append(list(row[used:used + many]))
            used += many
        lists.append(parts)
    return lists


def flat(lists):
    """The row of what the lists have for each arrow, as a tuple."""
    return tuple([item for line in lists for part in line for item in part])


def lists_led(lists, deed):
    """The lists for the result of a deed, for all deeds but "unafter" and "unbefore".

    For "before" each walk is turned round; for "stretch" the second one of two new arrows has 0.
    """
    if deed[0] == "after":
        return after_lists(lists, deed[1], deed[2], deed[3])
    if deed[0] == "before":
        _, i, j, times = mirrored(deed)
        return turned_lists(after_lists(turned_lists(lists), i, j, times))
    if deed[0] == "pass":
        return pass_lists(lists, deed[1])
    if deed[0] == "stretch":
        return stretch_lists(lists, deed[1], deed[2])
    return [[lists[room][other] for other in deed[1]] for room in deed[1]]


def turned_lists(lists):
    """The lists for the turned web."""
    return [[line[at] for line in lists] for at in range(len(lists))]


def after_lists(lists, i, j, times):
    """The lists for the result of "after"."""
    row = [list(part) for part in lists[i]]
    for at in range(times):
        # What was put in behind the first arrows is taken out in its turn.
        first = row[j][at]
        for room, part in enumerate(lists[j]):
            row[room].extend([first + item for item in part])
    row[j] = row[j][times:]
    return lists[:i] + [row] + lists[i + 1:]


def pass_lists(lists, gone):
    """The lists for the result of "pass"."""
    rooms = [room for room in range(len(lists)) if room != gone]
    return [[lists[i][j] + [x + y for x in lists[i][gone] for y in lists[gone][j]] for j in rooms] for i in rooms]


def stretch_lists(lists, i, j):
    """The lists of prices for the result of "stretch"."""
    found = [[*line, []] for line in lists]
    found.append([[] for part in found[0]])
    found[i][-1] = lists[i][j][:1]
    found[i][j] = lists[i][j][1:]
    found[-1][j] = [0]
    return found
