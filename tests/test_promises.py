"""[9.1]: promises, kept and not kept, and their faults."""

import random
import unittest

from otherpace.errors import BadPromise, Unkept
from otherpace.house import House, promise_fault_holds
from tests import keeping, plainly
from tests.samples import ANY_VALUES, G, HUGE, LONG_RING, LOOPS, TWO_STEPS, changed_once, random_row, random_web

SAME = ((1, 1, 0), (0, 0, 1), (1, 1, 0))
FOUR_STEPS = ((0, 4), (4, 0))
WEBS = {"g": G, "c": LOOPS, "t": TWO_STEPS, "s": SAME, "f": FOUR_STEPS, "d": ((0, 1), (2, 4)), "n": ((2, 1), (1, 2)),
        "e": ((2, 1), (1, 3)), "h": ((5,),)}
ROWS = {"p": ("g", (5, 2, 1)), "q": ("g", (5, 0, 3)), "r": ("g", (5, 2, 2)), "u": ("f", (1, 2, 3, 4, 5, 6, 7, 8)),
        "v": ("g", (0, 0, 0))}
# Promises that are kept, and others with a fault of each kind that is right for them.
KEPT = (
    ("agree", "p", "q", 0), ("agree", "p", "p", 0), ("agree", "p", "r", 1), ("agree", "p", "q", 7), ("agree", "u", "u", 5),
    ("least", "p", (3, 2)), ("least", "p", (6, 4)), ("least", "p", (-9, 1)), ("least", "v", (0, 5)), ("least", "u", (3, 1)),
    ("period", "g", 1), ("period", "t", 2), ("period", "t", 1), ("period", "f", 2), ("slower", "g", "c"),
    ("slower", "t", "g"), ("slower", "c", "f"), ("within", "g", "c"), ("within", "t", "h"), ("alike", "g", "c"),
    ("alike", "s", "g"), ("alike", "g", "g"), ("alike", "t", "c"))
UNKEPT = (
    (("agree", "p", "r", 0), ("round", ((0, 1, 0), (1, 0, 0)))),
    (("agree", "p", "r", 2), ("round", ((1, 0, 0), (0, 0, 0), (0, 0, 0), (0, 1, 0)))),
    (("agree", "v", "p", 4), ("round", ((0, 0, 0),))),
    (("least", "p", (8, 5)), ("round", ((0, 1, 0), (1, 0, 0)) * 2)),
    (("least", "v", (1, 1000)), ("round", ((0, 0, 0),))),
    (("period", "g", 2), ("round", ((0, 0, 0),))),
    (("period", "t", 4), ("round", ((0, 1, 1), (1, 0, 0)))),
    (("slower", "c", "g"), ("more", (2, 1), (1,), (2, 1))),
    (("slower", "g", "s"), ("equal", ((1, 1, 0), (0, 0, 1)))),
    (("slower", "g", "g"), ("equal", ((1, 0), (0, 1)))),
    (("within", "g", "t"), ("period", 2)),
    (("within", "f", "f"), ("period", 2)),
    (("within", "c", "g"), ("more", (2, 1), (1,), (2, 1))),
    (("within", "g", "s"), ("equal", ((1, 1, 0), (0, 0, 1)))),
    (("within", "t", "c"), ("length", 2)),
    (("within", "f", "d"), ("length", 4)),
    (("alike", "g", "h"), ("count", 2, 1, 2)),
    (("alike", "g", "e"), ("sign", -1, 1)),
    (("alike", "n", "g"), ("count", 6, 6, 1)),
    (("alike", "n", "g"), ("sign", 0, -1)))


def full_house():
    house = House()
    house.deal(tuple(("web", name, web) for name, web in WEBS.items()))
    house.deal(tuple(("prices", name, about, row) for name, (about, row) in ROWS.items()))
    return house


def full_keep():
    keep = keeping.Keep()
    keep.webs, keep.rows = dict(WEBS), dict(ROWS)
    return keep


class Judged(unittest.TestCase):
    def test_kept(self):
        house, keep = full_house(), full_keep()
        faults = [fault for _, fault in UNKEPT] + [("kept",), ("heights", (0, 0)), ("period", 1), None]
        for promise in KEPT:
            self.assertTrue(keep.is_kept(promise), promise)
            self.assertEqual(house.judged(promise), ("kept",), promise)
            for fault in faults:
                self.assertIs(promise_fault_holds(house, promise, fault), False, (promise, fault))
            house.change(("promise", promise))
            self.assertEqual(house.judged(promise), ("kept",))
            house.undo()

    def test_unkept(self):
        house, keep = full_house(), full_keep()
        for promise, fault in UNKEPT:
            self.assertFalse(keep.is_kept(promise), promise)
            self.assertIs(promise_fault_holds(house, promise, fault), True, (promise, fault))
            found = house.judged(promise)
            self.assertTrue(keep.fault(promise, found), (promise, found))
            self.assertIs(promise_fault_holds(house, promise, found), True)
            with self.assertRaises(Unkept) as caught:
                house.change(("promise", promise))
            self.assertEqual(vars(caught.exception), {"promise": promise, "fault": found})
            self.assertIs(caught.exception.promise, promise)
            self.assertEqual(house.would((("promise", promise),)), promise)

    def test_kinds_of_faults(self):
        house = full_house()
        for promise, kind in ((("within", "g", "t"), "period"), (("within", "g", "s"), "equal"),
                              (("within", "c", "g"), "more"), (("within", "t", "c"), "length"),
                              (("slower", "c", "g"), "more"), (("slower", "s", "g"), "equal"),
                              (("alike", "g", "e"), "sign"), (("alike", "g", "h"), "count"),
                              (("agree", "p", "r", 0), "round")):
            self.assertEqual(house.judged(promise)[0], kind)
        self.assertEqual(house.judged(("within", "h", "f")), ("period", 2))
        self.assertEqual(house.judged(("within", "f", "d")), ("length", 2))
        # The first condition that is not fulfilled tells the kind.
        for promise, thing in ((("within", "f", "t"), ("more", (4, 1), (1, 1), (3, 2))), (("within", "c", "t"), ("length", 1)),
                               (("within", "h", "g"), ("length", 1)), (("slower", "h", "g"), ("length", 1))):
            self.assertIs(promise_fault_holds(house, promise, thing), False)

    def test_right_papers_that_are_no_faults(self):
        house = full_house()
        for promise, paper in ((("alike", "g", "c"), ("alike", (("pass", 1),), ())),
                               (("slower", "g", "c"), ("less", (2, 1), (2, 1), (1,))),
                               (("within", "g", "c"), house.judged(("slower", "c", "g"))),
                               (("agree", "p", "q", 0), ("heights", (0, 2))), (("least", "p", (3, 2)), ("heights", (0, 1)))):
            self.assertEqual(house.judged(promise), ("kept",))
            self.assertIs(promise_fault_holds(house, promise, paper), False)

    def test_spoilt_faults(self):
        house, keep = full_house(), full_keep()
        for promise, fault in UNKEPT:
            for given in (fault, house.judged(promise)):
                for thing in [list(given), given[:1], given + (0,)] + changed_once(given):
                    self.assertIs(promise_fault_holds(house, promise, thing), keep.fault(promise, thing), (promise, thing))
            for thing in ANY_VALUES + tuple(other for _, other in UNKEPT):
                self.assertIs(promise_fault_holds(house, promise, thing), keep.fault(promise, thing), (promise, thing))

    def test_random_promises(self):
        source = random.Random(961)
        for _ in range(25):
            house, keep = House(), keeping.Keep()
            for name in "abc":
                web = random_web(source, source.randint(1, 3), 3, 12)
                for change in (("web", name, web), ("prices", "p" + name, name, random_row(source, web, -3, 6)),
                               ("prices", "q" + name, name, random_row(source, web, -1, 1))):
                    house.change(change)
                    keep = keep.change(change)
            growths = sorted(map(plainly.growth, keep.webs.values()))
            near = any(1e-9 < high - low < 0.25 for low, high in zip(growths, growths[1:]))
            for one in "abc":
                promises = [("agree", "p" + one, "q" + one, m) for m in range(4)]
                promises += [("least", "p" + one, (top, 2)) for top in range(-6, 12, 3)]
                promises += [("period", one, m) for m in range(1, 4)]
                promises += [(kind, one, other) for kind in ("slower", "within", "alike") for other in "abc"]
                for promise in promises:
                    if near and promise[0] in ("slower", "within"):
                        continue
                    found = house.judged(promise)
                    self.assertEqual(found == ("kept",), keep.is_kept(promise), (keep.webs, promise, found))
                    if found != ("kept",):
                        self.assertTrue(keep.fault(promise, found))
                        self.assertIs(promise_fault_holds(house, promise, found), True)

    def test_periods_of_webs_with_great_items(self):
        house = House()
        great = ((0, 10 ** 39, 0), (0, 0, 10 ** 38), (10 ** 37, 0, 0))
        house.deal((("web", "x", HUGE), ("web", "y", great), ("promise", ("period", "y", 3)), ("promise", ("period", "x", 1)),
                    ("web", "z", LONG_RING), ("promise", ("period", "z", 5))))
        for promise in (("period", "y", 2), ("period", "x", 10 ** 6), ("period", "y", 9), ("period", "z", 10)):
            kind, lap = house.judged(promise)
            self.assertEqual(kind, "round")
            self.assertTrue(plainly.is_round(house.web(promise[1]), lap))
            self.assertIs(promise_fault_holds(house, promise, (kind, lap)), True)
            self.assertIs(promise_fault_holds(house, promise, (kind, lap * promise[2])), False)


class NoPromises(unittest.TestCase):
    def test_values_of_all_kinds(self):
        house, keep = full_house(), full_keep()
        for promise in KEPT + tuple(promise for promise, _ in UNKEPT):
            for thing in [list(promise), promise[:-1], promise + (0,)] + changed_once(promise) + list(ANY_VALUES):
                if keep.is_promise(thing):
                    self.assertIn(house.judged(thing)[0], ("kept", "round", "more", "equal", "period", "length", "count",
                                                           "sign"))
                    continue
                with self.assertRaises(BadPromise) as caught:
                    house.judged(thing)
                self.assertIs(caught.exception.thing, thing)
                for fault in (("round", ((0, 0, 0),)), ("period", 2), ("sign", -1, 1), thing):
                    self.assertIs(promise_fault_holds(house, thing, fault), False)

    def test_names_that_stand_for_something_else(self):
        house = full_house()
        for promise in (("agree", "p", "g", 0), ("agree", "g", "p", 0), ("agree", "p", "u", 0), ("agree", "p", "x", 0),
                        ("agree", "p", "q", -1), ("agree", "p", "q", True), ("agree", "p", "q"), ("least", "g", (1, 1)),
                        ("least", "p", (1, 0)), ("least", "p", (1, -1)), ("least", "p", 1), ("least", "p", [1, 1]),
                        ("least", "p", (1, 1, 1)), ("least", "p", (True, 1)), ("period", "p", 1), ("period", "g", 0),
                        ("period", "g", -1), ("period", "g", True), ("slower", "g", "p"), ("within", "p", "g"),
                        ("alike", "g", "x"), ("alike", "g", ["g"]), ("Alike", "g", "c"), ("round", "g", "c"), ["alike", "g", "c"]):
            with self.assertRaises(BadPromise) as caught:
                house.judged(promise)
            self.assertIs(caught.exception.thing, promise)
            with self.assertRaises(BadPromise):
                house.change(("promise", promise))
            self.assertIs(promise_fault_holds(house, promise, ("round", ((0, 0, 0),))), False)

    def test_judged_in_its_house(self):
        house = full_house()
        other = house.copy()
        other.deal((("drop", "p"), ("prices", "p", "g", (0, 0, 0))))
        self.assertEqual(house.judged(("least", "p", (1, 1))), ("kept",))
        fault = other.judged(("least", "p", (1, 1)))
        self.assertIs(promise_fault_holds(other, ("least", "p", (1, 1)), fault), True)
        self.assertIs(promise_fault_holds(house, ("least", "p", (1, 1)), fault), False)


class Largest(unittest.TestCase):
    def test_eight_promises_and_eight_changes(self):
        house = full_house()
        house.deal(tuple(("promise", promise) for promise in KEPT[-8:]))
        for number in range(60):
            house.deal(tuple(("lift", name, (0, number)) for name in ("p", "q", "r", "v") * 2))
            self.assertIs(house.would((("add", "p", "q"),) * 8), None)


if __name__ == "__main__":
    unittest.main()
