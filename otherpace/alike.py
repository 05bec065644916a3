"""Webs that are alike but for names and paces."""

from otherpace.blocks import square_block
from otherpace.carrying import check_many, check_told, led_over, led_over_back
from otherpace.doing import webs_so_far
from otherpace.errors import BadPaper, BadRooms
from otherpace.groups import count_by, divisors_in, sign_in
from otherpace.kinds import is_integer, is_integer_from, is_paper
from otherpace.levels import add_rooms, fill, level_all, pass_rooms
from otherpace.plainwebs import MOST_PLAIN, is_plain_web
from otherpace.ways import Way
from otherpace.webs import check_web


def are_alike(one, other):
    """Whether chains of deeds make the same web of both."""
    check_web(one)
    check_web(other)
    return divisors_in(one) == divisors_in(other) and sign_in(one) == sign_in(other)


def judge_alike(one, other):
    """A paper that tells whether two webs are alike."""
    check_web(one)
    check_web(other)
    divisors, other_divisors = divisors_in(one), divisors_in(other)
    if divisors != other_divisors:
        m = telling_number(divisors, other_divisors)
        return ("count", m, count_by(divisors, m), count_by(other_divisors, m))
    sign, other_sign = sign_in(one), sign_in(other)
    if sign != other_sign:
        return ("sign", sign, other_sign)
    ways = [passed_way(one), passed_way(other)]
    if ways[0].table != ways[1].table:
        rooms = max([len(way.table) for way in ways])
        for way in ways:
            go_plain(way, rooms)
    return ("alike", tuple(ways[0].chain), tuple(ways[1].chain))


def telling_number(divisors, other_divisors):
    """An integer from 2 on modulo which webs with unlike divisors have unlike counts."""
    many = max(len(divisors), len(other_divisors))
    rows = [[1] * (many - len(row)) + list(row) for row in (divisors, other_divisors)]
    one, other = [pair for pair in zip(rows[0], rows[1]) if pair[0] != pair[1]][0]
    if one == 0 or other == 0:
        return 2 * max(one, other)
    return one if other % one != 0 else other


def passed_way(web):
    """The way of a web to one that has an arrow from each room to itself."""
    way = Way(web)
    pass_rooms(way)
    return way


def go_plain(way, rooms):
    """Go on to the plain web with so many rooms, at least those of the web, if each room has an
    arrow to itself and there are at least two of them."""
    fill(way)
    add_rooms(way, rooms)
    level_all(way)
    square_block(way)
    # All items are multiples of those of row 0, and the rows of a plain web cannot be lower.
    way.lower_rows()


def plain_chain(web, n):
    """A chain that makes of a web the plain web of n rooms with its divisors and its sign."""
    check_web(web)
    if not is_integer_from(n, len(web)) or n > MOST_PLAIN:
        raise BadRooms(n)
    if len(web) == n and is_plain_web(web):
        return ()
    way = passed_way(web)
    go_plain(way, n)
    return tuple(way.chain)


def alike_holds(one, other, thing):
    """Whether any value is a right paper for two webs, as judge_alike returns them."""
    check_web(one)
    check_web(other)
    if is_paper(thing, "alike", 3):
        return chains_hold(one, other, thing)
    if is_paper(thing, "sign", 3):
        signs = (sign_in(one), sign_in(other))
        return signs[0] != signs[1] and are_integers(thing[1:]) and thing[1:] == signs
    if not is_paper(thing, "count", 4) or not is_integer_from(thing[1], 2):
        return False
    counts = (count_by(divisors_in(one), thing[1]), count_by(divisors_in(other), thing[1]))
    return counts[0] != counts[1] and are_integers(thing[2:]) and thing[2:] == counts


def are_integers(row):
    """Whether all items of a tuple are integers."""
    return all([is_integer(item) for item in row])


def chains_hold(one, other, paper):
    """Whether the chains of a paper make the same web of two webs."""
    if not isinstance(paper[1], tuple) or not isinstance(paper[2], tuple):
        return False
    webs, other_webs = webs_so_far(one, paper[1]), webs_so_far(other, paper[2])
    if len(webs) <= len(paper[1]) or len(other_webs) <= len(paper[2]):
        return False
    return webs[-1] == other_webs[-1]


def gone_over(one, other, paper, lap, *, most=4096):
    """The told round of other to which a told round of one goes over by a paper of the kind
    "alike"."""
    check_web(one)
    check_web(other)
    if not is_paper(paper, "alike", 3) or not chains_hold(one, other, paper):
        raise BadPaper(paper)
    check_told(one, lap)
    shared = led_over(webs_so_far(one, paper[1]), paper[1], lap, most)
    found = led_over_back(webs_so_far(other, paper[2]), paper[2], shared, most)
    check_many(found, most, most)
    return found
