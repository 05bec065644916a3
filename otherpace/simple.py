"""Simple rounds, in which no room occurs twice, for what is surely a web."""

from otherpace.walks import is_first_and_plain, is_round_of
from otherpace.webs import arrows_of


def is_simple_of(web, thing):
    """Whether any value is a simple round of the web."""
    if not is_round_of(web, thing):
        return False
    rooms = [arrow[0] for arrow in thing]
    return len(set(rooms)) == len(rooms)


def is_simple_told(web, thing):
    """Whether any value is a simple told round of the web."""
    return is_simple_of(web, thing) and is_first_and_plain(thing)


def simple_rounds_of(web):
    """The ascending list of the simple told rounds."""
    found = []
    for home in range(len(web)):
        # The first turn begins in the first room, so the others lie behind it.
        inner = [arrow for arrow in arrows_of(web) if arrow[0] >= home and arrow[1] >= home]
        begun = [(arrow,) for arrow in inner if arrow[0] == home]
        while begun:
            found.extend([walk for walk in begun if walk[-1][1] == home])
            begun = [walk + (arrow,) for walk in begun for arrow in inner if goes_on(walk, arrow)]
    return sorted(found)


def goes_on(walk, arrow):
    """Whether an arrow leads on from a walk that has not come back, from a room that is new in it."""
    if arrow[0] != walk[-1][1]:
        return False
    return all([arrow[0] != step[0] for step in walk])
