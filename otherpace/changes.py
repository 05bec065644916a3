"""Changes of what a house keeps. What it kept before stays as it was."""

from otherpace.carrying import PRICED
from otherpace.checks import check_prices, check_room
from otherpace.doing import made_by
from otherpace.errors import BadHeights, BadName, BadPromise, InUse, NameTaken, NoName, NoPrices, NoPromise, OtherWeb
from otherpace.kinds import is_row
from otherpace.pricing import slope_of
from otherpace.promises import is_key, is_promise_in, names_in
from otherpace.standing import flat, listed, lists_led
from otherpace.webs import check_web
from otherpace.words import is_name


def is_change(thing):
    """Whether any value is a tuple with the name of a change and as many items as it has."""
    if not isinstance(thing, tuple) or len(thing) == 0 or not isinstance(thing[0], str):
        return False
    return thing[0] in ITEMS and len(thing) == ITEMS[thing[0]]


def changed(kept, change):
    """What is kept after a change; raises the change's errors."""
    maker = MAKERS[change[0]]
    return maker(kept, change)


def check_name(thing):
    """Raise BadName for any value that is not a name."""
    if not is_name(thing):
        raise BadName(thing)


def check_key(names, thing):
    """Raise NoName for any value that is not a name of a dict."""
    if not is_key(names, thing):
        raise NoName(thing)


def is_priced(rows, name):
    """Whether a price row is about the web with a name."""
    return any([about == name for about, _ in list(rows.values())])


def with_web(kept, name, web):
    """What is kept if a name stands for a web."""
    webs, rows, promises = kept
    return ({**webs, name: web}, rows, promises)


def with_row(kept, name, about, row):
    """What is kept if a name stands for a price row about the web with a name."""
    webs, rows, promises = kept
    return (webs, {**rows, name: (about, tuple(row))}, promises)


def web_change(kept, change):
    """A name stands for a web."""
    _, name, web = change
    check_name(name)
    if name in kept[1]:
        raise NameTaken(name)
    if is_priced(kept[1], name):
        raise InUse(name)
    check_web(web)
    return with_web(kept, name, web)


def prices_change(kept, change):
    """A name stands for a price row."""
    webs, rows, promises = kept
    _, name, about, prices = change
    check_name(name)
    if name in webs:
        raise NameTaken(name)
    check_key(webs, about)
    check_prices(webs[about], prices)
    agreeing = [promise for promise in promises if promise[0] == "agree" and name in names_in(promise)]
    if agreeing and rows[name][0] != about:
        raise InUse(name)
    return with_row(kept, name, about, prices)


def drop_change(kept, change):
    """A name stands for nothing."""
    webs, rows, promises = kept
    name = change[1]
    check_key({**webs, **rows}, name)
    if is_priced(rows, name) or any([name in names_in(promise) for promise in promises]):
        raise InUse(name)
    return (without_key(webs, name), without_key(rows, name), promises)


def without_key(names, name):
    """The dict without a name."""
    return {key: worth for key, worth in names.items() if key != name}


def rename_change(kept, change):
    """What has a name has another one."""
    webs, rows, promises = kept
    _, name, other = change
    check_key({**webs, **rows}, name)
    check_name(other)
    if other in webs or other in rows:
        raise NameTaken(other)
    new_webs = {renamed(key, name, other): web for key, web in webs.items()}
    new_rows = {renamed(key, name, other): (renamed(about, name, other), row) for key, (about, row) in rows.items()}
    new_promises = [promise[:1] + tuple([renamed(part, name, other) for part in promise[1:]]) for promise in promises]
    return (new_webs, new_rows, tuple(new_promises))


def renamed(part, name, other):
    """The other name for the name, everything else as it is."""
    return other if part == name else part


def deed_change(kept, change):
    """A web becomes what a deed makes of it, and its price rows are led along."""
    webs, rows, _ = kept
    _, name, deed = change
    check_key(webs, name)
    web = webs[name]
    found = with_web(kept, name, made_by(web, deed))
    if is_priced(rows, name) and deed[0] not in PRICED:
        raise NoPrices(deed)
    for key, (about, row) in rows.items():
        if about == name:
            found = with_row(found, key, about, flat(lists_led(listed(web, row), deed)))
    return found


def arrow_change(kept, change):
    """A web gets one more arrow."""
    webs, rows, _ = kept
    _, name, i, j = change
    check_key(webs, name)
    if is_priced(rows, name):
        raise InUse(name)
    web = webs[name]
    check_room(web, i)
    check_room(web, j)
    row = web[i][:j] + (web[i][j] + 1,) + web[i][j + 1:]
    return with_web(kept, name, web[:i] + (row,) + web[i + 1:])


def lift_change(kept, change):
    """A price row gets a slope added."""
    webs, rows, _ = kept
    _, name, heights = change
    check_key(rows, name)
    about, row = rows[name]
    web = webs[about]
    if not is_row(heights, len(web)):
        raise BadHeights(heights)
    return with_row(kept, name, about, sums(row, slope_of(web, heights)))


def add_change(kept, change):
    """A price row gets another one added."""
    rows = kept[1]
    _, name, other = change
    check_key(rows, name)
    check_key(rows, other)
    about, row = rows[name]
    if rows[other][0] != about:
        raise OtherWeb()
    return with_row(kept, name, about, sums(row, rows[other][1]))


def sums(one, other):
    """The list of the sums of the items of two rows."""
    return [x + y for x, y in zip(one, other)]


def promise_change(kept, change):
    """A promise is given."""
    webs, rows, promises = kept
    if not is_promise_in(kept, change[1]) or change[1] in promises:
        raise BadPromise(change[1])
    return (webs, rows, promises + (change[1],))


def release_change(kept, change):
    """A promise is not given any more."""
    webs, rows, promises = kept
    # A value that is only equal to a promise, as True is to 1, is none.
    if not is_promise_in(kept, change[1]) or change[1] not in promises:
        raise NoPromise(change[1])
    return (webs, rows, tuple([promise for promise in promises if promise != change[1]]))


ITEMS = {"web": 3, "prices": 4, "drop": 2, "rename": 3, "deed": 3, "arrow": 4, "lift": 3, "add": 3, "promise": 2,
         "release": 2}
MAKERS = {
    "web": web_change,
    "prices": prices_change,
    "drop": drop_change,
    "rename": rename_change,
    "deed": deed_change,
    "arrow": arrow_change,
    "lift": lift_change,
    "add": add_change,
    "promise": promise_change,
    "release": release_change,
}
