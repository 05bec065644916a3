"""[9.1] to [9.3]: houses, their changes and promises, against plain ones."""

import random
import unittest

from otherpace import errors
from otherpace.console import Console
from otherpace.errors import BadChange, BadPromise, NoName, NothingToRedo, NothingToUndo, PaceError, Unkept
from otherpace.house import House, promise_fault_holds
from tests import keeping, plainly, taken
from tests.samples import ANY_VALUES, G, LOOPS, TWO_STEPS, changed_once, random_row

NAMES = ("g", "c", "p", "q", "abcdefgh")
WEBS = (G, LOOPS, TWO_STEPS, ((1, 2), (1, 0)), ((3,),), ((2, 1), (1, 2)), ((2, 1), (1, 3)), ((0, 1, 1), (2, 0, 0), (1, 0, 1)))
NO_NAMES = ("", "abcdefghi", "A", "a1", "a b", "a\n", "\n", " ", "aB", "-", None, 0, True, ("a",), ["a"], {}, b"a")


def first_house():
    """The house of the document's examples, and a second web and a second price row."""
    house = House()
    house.change(("web", "g", G))
    house.change(("prices", "p", "g", (5, 2, 1)))
    house.change(("promise", ("least", "p", (3, 2))))
    return house


def outcome(function, *args):
    """What a call returns, or the class of its error and what it carries."""
    try:
        return (None, function(*args))
    except PaceError as error:
        return (error.__class__, vars(error))


def shown(house):
    """All that can be asked of a house."""
    names = house.names()
    webs = {name: house.web(name) for name in names if outcome(house.web, name)[0] is None}
    rows = {name: house.prices(name) for name in names if name not in webs}
    return (webs, rows, house.promises())


def random_name(source):
    return source.choice(NAMES) if source.random() < 0.97 else source.choice(NO_NAMES)


def random_promise(source, keep):
    """Mostly a promise whose names stand for what is asked."""
    kind = source.choice(("agree", "least", "period", "slower", "within", "alike"))
    webs, rows = list(keep.webs) + ["g"], list(keep.rows) + ["p"]
    if kind == "agree":
        return (kind, source.choice(rows), source.choice(rows), source.choice((0, 1, 2, 3, 12, True, -1)))
    if kind == "least":
        return (kind, source.choice(rows), (source.randint(-9, 9), source.randint(0, 4)))
    if kind == "period":
        return (kind, source.choice(webs), source.choice((0, 1, 1, 2, 3)))
    return (kind, source.choice(webs + ["p"]), source.choice(webs))


def random_change(source, keep):
    kind = source.choice(list(keeping.SIZES))
    name = random_name(source)
    webs, rows = list(keep.webs) + ["g"], list(keep.rows) + ["p"]
    if kind == "web":
        return (kind, name, source.choice(WEBS) if source.random() < 0.9 else source.choice(ANY_VALUES))
    if kind == "prices":
        about = source.choice(webs)
        row = random_row(source, keep.webs.get(about, G), -5, 9)
        return (kind, name, about, row if source.random() < 0.9 else row[1:])
    if kind == "rename":
        return (kind, source.choice(webs + rows), name)
    if kind == "deed":
        about = source.choice(webs)
        deed = source.choice(list(taken.all_deeds(keep.webs.get(about, G), (1, 2))) + [("pass", 9)])
        return (kind, about, deed)
    if kind == "arrow":
        return (kind, source.choice(webs), source.randint(-1, 2), source.randint(0, 2))
    if kind == "lift":
        return (kind, source.choice(rows), tuple(source.randint(-4, 4) for _ in range(source.choice((1, 2, 2, 3)))))
    if kind == "add":
        return (kind, source.choice(rows), source.choice(rows))
    if kind == "promise":
        return (kind, random_promise(source, keep))
    if kind == "release":
        return (kind, source.choice(keep.promises) if keep.promises else random_promise(source, keep))
    return (kind, name)


def is_fit(keep):
    """Whether the webs are small enough to go on, and their growths far enough from one another."""
    if any(len(web) > 4 or sum(map(sum, web)) > 16 for web in keep.webs.values()):
        return False
    growths = sorted(plainly.growth(web) for web in keep.webs.values())
    return all(abs(low - high) < 1e-9 or high - low > 0.1 for low, high in zip(growths, growths[1:]))


class Examples(unittest.TestCase):
    def test_deed(self):
        house = first_house()
        house.change(("deed", "g", ("pass", 1)))
        self.assertEqual((house.web("g"), house.prices("p")), (LOOPS, ("g", (5, 3))))

    def test_lift_and_unkept(self):
        house = first_house()
        house.change(("lift", "p", (0, 7)))
        self.assertEqual(house.prices("p"), ("g", (5, 9, -6)))
        house = first_house()
        with self.assertRaises(Unkept) as caught:
            house.change(("prices", "p", "g", (5, 2, 0)))
        self.assertEqual(caught.exception.promise, ("least", "p", (3, 2)))
        kind, lap = caught.exception.fault
        self.assertEqual((kind, sorted(lap)), ("round", [(0, 1, 0), (1, 0, 0)]))
        self.assertEqual(house, first_house())

    def test_names(self):
        house = first_house()
        self.assertEqual(house.names(), ("g", "p"))
        self.assertEqual(House().names(), ())
        for name in ("p", "h", "", None, 0, ["g"], ("g",), house, {}):
            with self.assertRaises(NoName) as caught:
                house.web(name)
            self.assertIs(caught.exception.name, name)
        for name in ("g", "h", "", None, 0, ["p"], ("p",), house, {}):
            with self.assertRaises(NoName) as caught:
                house.prices(name)
            self.assertIs(caught.exception.name, name)


class Changes(unittest.TestCase):
    def check_same(self, house, keep):
        self.assertEqual(shown(house), keep.shown())
        self.assertEqual(house.names(), tuple(sorted(list(keep.webs) + list(keep.rows))))
        self.assertEqual(str(house), keep.text())

    def check_change(self, house, keep, change):
        """Make a change in both; returns what is kept then."""
        kind, carried = outcome(keep.change, change)
        copied, deals = house.copy(), house.deals()
        found = outcome(house.change, change)
        if kind is None and carried.unkept() is None:
            self.assertEqual(found, (None, None), change)
            self.assertEqual(house.deals(), deals + ((change,),))
            return carried
        if kind is None:
            self.assertIs(found[0], Unkept, change)
            self.assertEqual(found[1]["promise"], carried.unkept())
            self.assertTrue(carried.fault(found[1]["promise"], found[1]["fault"]), found)
        else:
            self.assertEqual(found, (kind, carried), change)
        self.assertEqual((house, house.deals()), (copied, deals))
        return keep

    def test_random_changes(self):
        counts = {}
        for seed in range(900, 950):
            source = random.Random(seed)
            house, keep = House(), keeping.Keep()
            for name in ("g", "c"):
                keep = self.check_change(house, keep, ("web", name, source.choice(WEBS)))
            for _ in range(130):
                change = random_change(source, keep)
                after = outcome(keep.change, change)
                if after[0] is None and not is_fit(after[1]):
                    continue
                before = house.deals()
                keep = self.check_change(house, keep, change)
                done = "done" if house.deals() != before else "refused"
                counts[(change[0], done)] = counts.get((change[0], done), 0) + 1
                self.check_same(house, keep)
        for kind in keeping.SIZES:
            for done in ("done", "refused"):
                self.assertGreater(counts.get((kind, done), 0), 4, (kind, done))

    def test_each_error_in_its_sequence(self):
        house = House()
        for change in (("web", "g", G), ("web", "c", LOOPS), ("prices", "p", "g", (5, 2, 1)),
                       ("prices", "q", "c", (1, 2)), ("prices", "r", "g", (1, 2, 3)), ("promise", ("agree", "p", "r", 1)),
                       ("promise", ("alike", "g", "c")), ("web", "free", ((3,),))):
            house.change(change)
        for change, error, carried in (
                (("web", "A", None), "BadName", "A"), (("web", "p", None), "NameTaken", "p"),
                (("web", "g", None), "InUse", "g"), (("web", "n", None), "BadWeb", None),
                (("web", "free", [[2]]), "BadWeb", [[2]]),
                (("prices", "", "x", 0), "BadName", ""), (("prices", "c", "x", 0), "NameTaken", "c"),
                (("prices", "p", "q", 0), "NoName", "q"), (("prices", "p", ["g"], 0), "NoName", ["g"]),
                (("prices", "p", "c", (1, 2, 3)), "BadPrices", (1, 2, 3)), (("prices", "p", "c", (1, 2)), "InUse", "p"),
                (("prices", "n", "free", (1, True, 2)), "BadPrices", (1, True, 2)),
                (("drop", "x"), "NoName", "x"), (("drop", None), "NoName", None), (("drop", "g"), "InUse", "g"),
                (("drop", "p"), "InUse", "p"), (("drop", "c"), "InUse", "c"),
                (("rename", "x", "A"), "NoName", "x"), (("rename", "g", "A"), "BadName", "A"),
                (("rename", "g", "p"), "NameTaken", "p"), (("rename", "g", "g"), "NameTaken", "g"),
                (("deed", "p", None), "NoName", "p"), (("deed", "x", None), "NoName", "x"),
                (("deed", "g", ("pass", 2)), "BadDeed", ("pass", 2)), (("deed", "g", None), "BadDeed", None),
                (("deed", "g", ("pass", 0)), "NoDeed", ("pass", 0)),
                (("deed", "g", ("unafter", 1, 0, 1)), "NoDeed", ("unafter", 1, 0, 1)),
                (("arrow", "p", 0, 0), "NoName", "p"), (("arrow", "g", None, None), "InUse", "g"),
                (("arrow", "free", 1, None), "BadRoom", 1), (("arrow", "free", 0, None), "BadRoom", None),
                (("arrow", "free", True, 0), "BadRoom", True), (("arrow", "free", 0, -1), "BadRoom", -1),
                (("lift", "g", None), "NoName", "g"), (("lift", "x", None), "NoName", "x"),
                (("lift", "p", (1, 2, 3)), "BadHeights", (1, 2, 3)), (("lift", "p", (1, True)), "BadHeights", (1, True)),
                (("add", "g", "x"), "NoName", "g"), (("add", "p", "c"), "NoName", "c"), (("add", "p", "x"), "NoName", "x"),
                (("promise", ("alike", "g", "c")), "BadPromise", ("alike", "g", "c")),
                (("promise", ("agree", "p", "q", 0)), "BadPromise", ("agree", "p", "q", 0)),
                (("promise", None), "BadPromise", None), (("release", None), "NoPromise", None),
                (("release", ("alike", "c", "g")), "NoPromise", ("alike", "c", "g")),
                (("release", ("agree", "p", "r", True)), "NoPromise", ("agree", "p", "r", True))):
            before = house.copy()
            with self.assertRaises(getattr(errors, error)) as caught:
                house.change(change)
            self.assertEqual(list(vars(caught.exception).values()), [carried])
            for value in vars(caught.exception).values():
                self.assertTrue(any(value is part for part in change[1:]))
            self.assertEqual(house, before)
            with self.assertRaises(BadChange) as caught:
                house.deal((("rename", "free", "other"), change))
            self.assertEqual(caught.exception.number, 1)
            self.assertEqual((house, house.deals()), (before, before.deals()))
        with self.assertRaises(errors.OtherWeb):
            house.change(("add", "p", "q"))
        # Without the promise the price row may be about another web.
        house.change(("release", ("agree", "p", "r", 1)))
        house.change(("prices", "p", "c", (1, 2)))
        self.assertEqual(house.prices("p"), ("c", (1, 2)))

    def test_no_prices(self):
        web = ((2, 3), (2, 3))
        house = House()
        house.deal((("web", "g", web), ("web", "c", web), ("prices", "p", "g", (0,) * 10)))
        for deed in (("unafter", 0, 1, 1), ("unbefore", 0, 1, 1)):
            with self.assertRaises(errors.NoPrices) as caught:
                house.change(("deed", "g", deed))
            self.assertIs(caught.exception.deed, deed)
            house.change(("deed", "c", deed))
            house.undo()

    def test_an_agreeing_row_about_the_same_web(self):
        house = first_house()
        house.deal((("prices", "q", "g", (5, 2, 1)), ("web", "c", G), ("promise", ("agree", "q", "q", 0))))
        house.change(("prices", "q", "g", (1, 1, 1)))
        with self.assertRaises(errors.InUse):
            house.change(("prices", "q", "c", (1, 1, 1)))
        # A "least" promise does not hold it.
        house.change(("prices", "p", "c", (9, 9, 9)))
        self.assertEqual(house.prices("p"), ("c", (9, 9, 9)))

    def test_rename_everywhere(self):
        house = first_house()
        house.deal((("web", "least", LOOPS), ("prices", "agree", "g", (5, 2, 1)), ("promise", ("agree", "p", "agree", 0)),
                    ("promise", ("alike", "g", "least")), ("promise", ("period", "g", 1)), ("promise", ("slower", "g", "least")),
                    ("promise", ("within", "g", "least"))))
        house.deal((("rename", "g", "slower"), ("rename", "agree", "x"), ("rename", "p", "agree")))
        self.assertEqual(house.names(), ("agree", "least", "slower", "x"))
        self.assertEqual(house.prices("x"), ("slower", (5, 2, 1)))
        self.assertEqual(house.promises(), (
            ("least", "agree", (3, 2)), ("agree", "agree", "x", 0), ("alike", "slower", "least"), ("period", "slower", 1),
            ("slower", "slower", "least"), ("within", "slower", "least")))

    def test_names_that_are_words_of_promises(self):
        house = first_house()
        house.deal((("web", "period", G), ("prices", "least", "period", (1, 1, 1)), ("prices", "agree", "g", (5, 2, 1)),
                    ("promise", ("period", "g", 1)), ("promise", ("agree", "p", "p", 0))))
        house.change(("prices", "agree", "period", (1, 2, 3)))
        house.deal((("drop", "least"), ("drop", "agree"), ("drop", "period")))
        self.assertEqual(house.names(), ("g", "p"))
        house.deal((("web", "period", G), ("rename", "period", "alike")))
        self.assertEqual(house.promises(), (("least", "p", (3, 2)), ("period", "g", 1), ("agree", "p", "p", 0)))

    def test_prices_led_along(self):
        house = House()
        web = ((1, 2), (1, 1))
        house.deal((("web", "g", web), ("prices", "p", "g", (1, 2, 3, 4, 5)), ("prices", "q", "g", (0, 0, 0, 0, 7)),
                    ("web", "c", web), ("prices", "r", "c", (1, 1, 1, 1, 1))))
        house.change(("deed", "g", ("after", 0, 1, 2)))
        self.assertEqual(house.prices("p")[1], keeping.led_prices(web, ("after", 0, 1, 2), (1, 2, 3, 4, 5), None))
        self.assertEqual(house.prices("q")[1], keeping.led_prices(web, ("after", 0, 1, 2), (0, 0, 0, 0, 7), None))
        self.assertEqual(house.prices("r"), ("c", (1, 1, 1, 1, 1)))

    def test_values_that_are_no_changes(self):
        changes = [("web", "g", LOOPS), ("drop", "g"), ("promise", ("period", "g", 1)), ("deed", "g", ("pass", 1))]
        house = first_house()
        for thing in list(ANY_VALUES) + [part for change in changes for part in changed_once(change)]:
            before = house.copy()
            kind, carried = outcome(house.change, thing)
            if not keeping.is_change(thing):
                self.assertEqual((kind, carried), (BadChange, {"number": 0}), thing)
            else:
                self.assertIsNot(kind, BadChange, thing)
            if kind is None:
                house.undo()
            self.assertEqual(house, before)

    def test_any_values_in_changes(self):
        source = random.Random(917)
        house = first_house()
        keep = keeping.Keep()
        for change in (("web", "g", G), ("prices", "p", "g", (5, 2, 1)), ("promise", ("least", "p", (3, 2)))):
            keep = keep.change(change)
        changes = [("web", "c", LOOPS), ("prices", "q", "g", (1, 2, 3)), ("drop", "p"), ("rename", "g", "c"),
                   ("deed", "g", ("pass", 1)), ("arrow", "g", 0, 1), ("lift", "p", (0, 1)), ("add", "p", "p"),
                   ("promise", ("agree", "p", "p", 3)), ("release", ("least", "p", (3, 2)))]
        for change in changes:
            for at in range(1, len(change)):
                values = list(ANY_VALUES) + changed_once(change[at])
                for thing in source.sample(values, min(len(values), 150)):
                    passed = change[:at] + (thing,) + change[at + 1:]
                    if "0" * 30 in repr(passed) or plainly.is_table(thing) and sum(map(sum, thing)) > 60:
                        continue
                    copied = house.copy()
                    self.check_change(copied, keep, passed)


class Deals(unittest.TestCase):
    def test_broken_and_mended(self):
        house = first_house()
        broken = ("prices", "p", "g", (0, 0, 0))
        mended = ("prices", "p", "g", (7, 7, 7))
        house.deal((broken, mended))
        self.assertEqual(house.prices("p"), ("g", (7, 7, 7)))
        self.assertEqual(house.deals()[-1], (broken, mended))
        house.deal((broken, ("release", ("least", "p", (3, 2))), ("drop", "p"), ("drop", "g")))
        self.assertEqual((house.names(), house.promises()), ((), ()))

    def test_one_or_two_broken_at_the_end(self):
        house = first_house()
        house.change(("promise", ("least", "p", (0, 1))))
        house.change(("promise", ("period", "g", 1)))
        for prices, promise in (((1, 1, 1), ("least", "p", (3, 2))), ((-1, 1, 1), ("least", "p", (3, 2)))):
            for changes in ((("prices", "p", "g", prices),), (("web", "c", LOOPS), ("prices", "p", "g", prices))):
                before = house.copy()
                with self.assertRaises(Unkept) as caught:
                    house.deal(changes)
                self.assertEqual(caught.exception.promise, promise)
                self.assertIs(promise_fault_holds(before, promise, caught.exception.fault), False)
                self.assertEqual((house, house.deals()), (before, before.deals()))
                self.assertEqual(house.would(changes), promise)
        house.change(("release", ("least", "p", (3, 2))))
        self.assertIs(house.would((("prices", "p", "g", (1, 1, 1)),)), None)
        self.assertEqual(house.would((("prices", "p", "g", (-1, 1, 1)),)), ("least", "p", (0, 1)))

    def test_a_wrong_change_behind(self):
        house = first_house()
        before = house.copy()
        for changes, number in (((("web", "c", LOOPS), ("drop", "x")), 1), ((None,), 0), ((("drop",),), 0),
                                ((("web", "c", LOOPS), ("web", "d", G), ["drop", "c"]), 2), (("web", "c", LOOPS), 0),
                                ((("prices", "p", "g", (0, 0, 0)), ("drop", "g")), 1),
                                ((("web", "c", LOOPS), ("arrow", "c", 1, 0)), 1)):
            for function in (house.deal, house.would):
                with self.assertRaises(BadChange) as caught:
                    function(changes)
                self.assertEqual(vars(caught.exception), {"number": number})
                self.assertEqual((house, house.deals()), (before, before.deals()))
        for changes in (None, [], [("web", "c", LOOPS)], "", 0, {}, house, True):
            for function in (house.deal, house.would):
                with self.assertRaises(BadChange) as caught:
                    function(changes)
                self.assertEqual(vars(caught.exception), {"number": -1})

    def test_each_change_sees_those_before_it(self):
        house = House()
        house.deal((("web", "g", G), ("prices", "p", "g", (5, 2, 1)), ("rename", "g", "c"), ("deed", "c", ("pass", 1)),
                    ("lift", "p", (3,)), ("add", "p", "p"), ("promise", ("least", "p", (6, 1)))))
        self.assertEqual(house.prices("p"), ("c", (10, 6)))

    def test_empty_deal(self):
        house = first_house()
        before = house.copy()
        house.deal(())
        self.assertEqual(house, before)
        self.assertEqual(house.deals(), before.deals() + ((),))
        house.undo()
        self.assertEqual(house.deals(), before.deals())
        self.assertIs(house.would(()), None)

    def test_would_changes_nothing(self):
        house = first_house()
        before, deals = house.copy(), house.deals()
        self.assertIs(house.would((("web", "c", LOOPS), ("promise", ("alike", "g", "c")))), None)
        self.assertEqual(house.would((("promise", ("period", "g", 2)),)), ("period", "g", 2))
        self.assertEqual((house, house.deals()), (before, deals))
        house.undo()
        house.would(())
        house.redo()
        self.assertEqual(house, before)

    def test_deals_as_they_were_passed(self):
        house = first_house()
        deal = (("promise", ("least", "p", (2, 4))), ("promise", ("least", "p", (1, 2))))
        house.deal(deal)
        self.assertEqual(house.deals()[-1], deal)
        self.assertEqual(house.promises(), (("least", "p", (3, 2)), ("least", "p", (2, 4)), ("least", "p", (1, 2))))
        with self.assertRaises(BadPromise):
            house.change(("promise", ("least", "p", (2, 4))))
        house.change(("release", ("least", "p", (2, 4))))
        self.assertEqual(house.promises(), (("least", "p", (3, 2)), ("least", "p", (1, 2))))

    def test_random_deals(self):
        for seed in range(950, 990):
            source = random.Random(seed)
            house, keep = House(), keeping.Keep()
            house.change(("web", "g", G))
            keep = keep.change(("web", "g", G))
            for _ in range(60):
                changes, after, bad = [], keep, None
                for number in range(source.randint(0, 5)):
                    change = random_change(source, after)
                    found = outcome(after.change, change)
                    if found[0] is None and not is_fit(found[1]):
                        continue
                    changes.append(change)
                    if found[0] is not None:
                        bad = len(changes) - 1
                        if source.random() < 0.7:
                            changes.pop()
                            bad = None
                            continue
                        break
                    after = found[1]
                would = outcome(house.would, tuple(changes))
                found = outcome(house.deal, tuple(changes))
                if bad is not None:
                    self.assertEqual(found, (BadChange, {"number": bad}))
                    self.assertEqual(would, found)
                elif after.unkept() is None:
                    self.assertEqual((found, would), ((None, None), (None, None)))
                    keep = after
                else:
                    self.assertIs(found[0], Unkept)
                    self.assertEqual(found[1]["promise"], after.unkept())
                    self.assertTrue(after.fault(found[1]["promise"], found[1]["fault"]))
                    self.assertEqual(would, (None, after.unkept()))
                self.assertEqual(shown(house), keep.shown())


class Undone(unittest.TestCase):
    def test_there_and_back(self):
        house = House()
        states = [house.copy()]
        for change in (("web", "g", G), ("prices", "p", "g", (5, 2, 1)), ("promise", ("least", "p", (3, 2))),
                       ("deed", "g", ("pass", 1)), ("rename", "g", "c"), ("lift", "p", (4,)), ("arrow", "c", 0, 0)):
            if change[0] != "arrow":
                house.change(change)
                states.append(house.copy())
        deals = house.deals()
        for at in reversed(range(len(deals))):
            house.undo()
            self.assertEqual(house, states[at])
            self.assertEqual(house.deals(), deals[:at])
        with self.assertRaises(NothingToUndo):
            house.undo()
        for at in range(len(deals)):
            house.redo()
            self.assertEqual(house, states[at + 1])
            self.assertEqual(house.deals(), deals[:at + 1])
        with self.assertRaises(NothingToRedo):
            house.redo()

    def test_a_deal_behind_undo(self):
        house = first_house()
        house.undo()
        house.change(("web", "c", LOOPS))
        with self.assertRaises(NothingToRedo):
            house.redo()
        house.undo()
        house.undo()
        house.redo()
        house.redo()
        self.assertEqual(house.names(), ("c", "g", "p"))
        self.assertEqual(house.promises(), ())

    def test_a_refused_deal_behind_undo(self):
        house = first_house()
        before = house.copy()
        house.undo()
        for refused in ((("promise", ("least", "p", (9, 1))),), (("drop", "x"),), None):
            with self.assertRaises(PaceError):
                house.deal(refused)
        house.redo()
        self.assertEqual((house, house.deals()), (before, before.deals()))

    def test_random_walk(self):
        source = random.Random(940)
        house = first_house()
        states, at = [House.read(str(house))], 0
        for number in range(300):
            step = source.choice(("undo", "redo", "deal"))
            if step == "undo" and at > 0:
                house.undo()
                at -= 1
            elif step == "redo" and at + 1 < len(states):
                house.redo()
                at += 1
            elif step == "deal":
                house.change(("lift", "p", (number, source.randint(-9, 9))))
                states = states[:at + 1] + [House.read(str(house))]
                at += 1
            self.assertEqual(house, states[at])
            self.assertEqual(len(house.deals()), 3 + at)


class Copies(unittest.TestCase):
    def test_they_go_their_own_way(self):
        house = first_house()
        house.undo()
        other = house.copy()
        self.assertEqual((other, other.deals()), (house, house.deals()))
        other.redo()
        self.assertNotEqual(house, other)
        house.change(("web", "c", LOOPS))
        self.assertEqual(other.names(), ("g", "p"))
        self.assertEqual(other.promises(), (("least", "p", (3, 2)),))
        other.undo()
        other.undo()
        self.assertEqual(house.names(), ("c", "g", "p"))
        self.assertEqual(len(house.deals()), 3)
        with self.assertRaises(NothingToRedo):
            house.redo()
        other.redo()

    def test_equality(self):
        one, other = House(), House()
        one.deal((("web", "g", G), ("prices", "p", "g", (5, 2, 1)), ("web", "c", LOOPS)))
        other.deal((("web", "c", LOOPS),))
        self.assertFalse(one == other)
        self.assertTrue(one != other)
        other.deal((("web", "g", G), ("prices", "q", "g", (5, 2, 1)), ("rename", "q", "p")))
        self.assertTrue(one == other)
        self.assertFalse(one != other)
        one.deal((("promise", ("period", "g", 1)), ("promise", ("alike", "g", "c"))))
        other.deal((("promise", ("alike", "g", "c")), ("promise", ("period", "g", 1))))
        self.assertFalse(one == other)
        for change in (("release", ("period", "g", 1)), ("promise", ("period", "g", 1))):
            one.change(change)
        self.assertTrue(one == other)

    def test_unlike_houses(self):
        house = first_house()
        for change in (("web", "c", G), ("lift", "p", (0, 1)), ("rename", "p", "q"), ("rename", "g", "h"),
                       ("promise", ("least", "p", (6, 4))), ("release", ("least", "p", (3, 2))), ("add", "p", "p")):
            other = house.copy()
            other.change(change)
            self.assertFalse(house == other)
        same = House()
        same.deal((("web", "g", G), ("web", "h", G), ("prices", "p", "g", (5, 2, 1))))
        other = House()
        other.deal((("web", "g", G), ("web", "h", G), ("prices", "p", "h", (5, 2, 1))))
        self.assertFalse(same == other)

    def test_other_values(self):
        house = first_house()
        for thing in ANY_VALUES + (str(house), Console(house), ({}, {}, ())):
            if not isinstance(thing, House):
                self.assertFalse(house == thing)
                self.assertTrue(house != thing)
                self.assertFalse(thing == house)
        self.assertTrue(House() == House())


if __name__ == "__main__":
    unittest.main()
