"""Deeds and chains of them: what they are, and the webs that they make of what is surely a web."""

from otherpace.errors import BadChain, BadDeed, NoDeed
from otherpace.kinds import is_integer_below, is_integer_from, is_order, is_paper
from otherpace.tables import turned
from otherpace.webs import MOST_ROOMS, is_web

STEPS = ("after", "before", "unafter", "unbefore")


def is_deed_of(web, thing):
    """Whether any value is a deed with rooms of the web, whether it can be done or not."""
    if is_paper(thing, "pass", 2):
        return is_integer_below(thing[1], len(web))
    if is_paper(thing, "turn", 2):
        return is_order(thing[1], len(web))
    if is_paper(thing, "stretch", 3):
        return all([is_integer_below(room, len(web)) for room in thing[1:]])
    return any([is_step(web, thing, kind) for kind in STEPS])


def is_step(web, thing, kind):
    """Whether any value is a deed of a kind that is done a number of times."""
    if not is_paper(thing, kind, 4) or not all([is_integer_below(room, len(web)) for room in thing[1:3]]):
        return False
    return thing[1] != thing[2] and is_integer_from(thing[3], 1)


def done_of(web, deed):
    """The web that a deed makes, () if it cannot be done."""
    maker = MAKERS[deed[0]]
    return maker(web, deed)


def made_by(web, deed):
    """The web that a deed makes; raises BadDeed for any value that is no deed, then NoDeed if it
    cannot be done."""
    if not is_deed_of(web, deed):
        raise BadDeed(deed)
    result = done_of(web, deed)
    if not result:
        raise NoDeed(deed)
    return result


def webs_on(web, chain):
    """The list of the webs to which the deeds of a chain come, and of the last one that they make.

    Raises BadChain for any value that is no chain that can be done.
    """
    if not isinstance(chain, tuple):
        raise BadChain(-1)
    webs = webs_so_far(web, chain)
    if len(webs) <= len(chain):
        raise BadChain(len(webs) - 1)
    return webs


def webs_so_far(web, chain):
    """The same for any tuple, but only up to the first item that is no deed that can be done."""
    webs = [web]
    for deed in chain:
        result = done_of(webs[-1], deed) if is_deed_of(webs[-1], deed) else ()
        if not result:
            break
        webs.append(result)
    return webs


def web_or_nothing(table):
    """The table if it is a web, otherwise ()."""
    return table if is_web(table) else ()


def with_row(web, i, j, times):
    """The table in which so many arrows from i to j are taken out, and for each of them all arrows
    from j are put in as arrows from i; for times below 0 the other way round."""
    row = [x + times * (y - int(at == j)) for at, (x, y) in enumerate(zip(web[i], web[j]))]
    return web[:i] + (tuple(row),) + web[i + 1:]


def after_done(web, deed):
    """What "after" makes of a web."""
    _, i, j, times = deed
    # On the way there are not less arrows from i to j than in the end, or at least one, and no rooms
    # are joined less well; so only the end is looked at.
    return web_or_nothing(with_row(web, i, j, times)) if web[i][j] > 0 else ()


def unafter_done(web, deed):
    """What "unafter" makes of a web."""
    _, i, j, times = deed
    table = with_row(web, i, j, -times)
    return web_or_nothing(table) if table[i][j] > 0 else ()


def mirrored(deed):
    """The deed "after" for a deed "before" in the turned web, and likewise for "unbefore"."""
    kind, i, j, times = deed
    return (kind.replace("before", "after"), j, i, times)


def before_done(web, deed):
    """What "before" makes of a web."""
    return turned(after_done(turned(web), mirrored(deed)))


def unbefore_done(web, deed):
    """What "unbefore" makes of a web."""
    return turned(unafter_done(turned(web), mirrored(deed)))


def pass_done(web, deed):
    """What "pass" makes of a web."""
    gone = deed[1]
    if web[gone][gone] > 0:
        return ()
    rooms = [room for room in range(len(web)) if room != gone]
    return tuple([tuple([web[i][j] + web[i][gone] * web[gone][j] for j in rooms]) for i in rooms])


def stretch_done(web, deed):
    """What "stretch" makes of a web."""
    _, i, j = deed
    if web[i][j] == 0 or len(web) == MOST_ROOMS:
        return ()
    table = [[*row, 0] for row in web]
    table.append([0] * (len(web) + 1))
    table[i][j] -= 1
    table[i][len(web)] = 1
    table[len(web)][j] = 1
    return tuple([tuple(row) for row in table])


def turn_done(web, deed):
    """What "turn" makes of a web."""
    order = deed[1]
    return tuple([tuple([web[i][j] for j in order]) for i in order])


MAKERS = {
    "after": after_done,
    "before": before_done,
    "unafter": unafter_done,
    "unbefore": unbefore_done,
    "pass": pass_done,
    "stretch": stretch_done,
    "turn": turn_done,
}
