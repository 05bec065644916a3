"""[0.2]: methods of houses and consoles: where they are defined, names of arguments, equal answers."""

import copy
import inspect
import unittest

from otherpace import console, house
from otherpace.console import Console
from otherpace.errors import PaceError
from otherpace.house import House, promise_fault_holds
from tests.samples import ANY_VALUES, G, LOOPS, changed_once
from tests.test_house import first_house, outcome

CHANGE = ("web", "c", LOOPS)
PROMISE = ("least", "p", (2, 1))
# Methods, their parameters, and arguments that fit for the house of the examples.
METHODS = (
    ("copy", "(self)", ()), ("names", "(self)", ()), ("web", "(self, name)", ("g",)), ("prices", "(self, name)", ("p",)),
    ("promises", "(self)", ()), ("deals", "(self)", ()), ("deal", "(self, changes)", ((CHANGE,),)),
    ("change", "(self, change)", (CHANGE,)), ("would", "(self, changes)", ((CHANGE, ("promise", PROMISE)),)),
    ("undo", "(self)", ()), ("redo", "(self)", ()), ("judged", "(self, promise)", (PROMISE,)))


def ready_house():
    """The house of the examples, with an undone deal."""
    found = first_house()
    found.change(("web", "d", G))
    found.undo()
    return found


class Interface(unittest.TestCase):
    def test_methods(self):
        for name, written, _ in METHODS:
            self.assertEqual(str(inspect.signature(vars(House)[name])), written)
        self.assertEqual(str(inspect.signature(House.read)), "(text)")
        self.assertIsInstance(vars(House)["read"], classmethod)
        for name in ("__eq__", "__str__"):
            self.assertIn(name, vars(House))
        self.assertEqual(str(inspect.signature(House)), "()")
        self.assertEqual(str(inspect.signature(Console)), "(house)")
        self.assertEqual(str(inspect.signature(vars(Console)["run"])), "(self, line)")
        self.assertEqual(str(inspect.signature(promise_fault_holds)), "(house, promise, thing)")

    def test_defined_where_they_are_listed(self):
        for value, module in ((House, house), (promise_fault_holds, house), (Console, console)):
            self.assertEqual(value.__module__, module.__name__)
        self.assertEqual((House.__bases__, Console.__bases__), ((object,), (object,)))

    def test_by_position_and_by_name(self):
        for name, written, args in METHODS:
            one, other = ready_house(), ready_house()
            named = dict(zip(written.strip("()").split(", ")[1:], args))
            self.assertEqual(getattr(one, name)(*args), getattr(other, name)(**named))
            self.assertEqual((one, one.deals()), (other, other.deals()))
        self.assertEqual(House.read(text="house"), House())
        found = first_house()
        self.assertIs(Console(house=found).house, found)
        self.assertEqual(Console(found).run(line="names"), "g p")
        fault = found.judged(PROMISE)
        self.assertIs(promise_fault_holds(house=found, promise=PROMISE, thing=fault), True)
        self.assertIs(promise_fault_holds(found, PROMISE, thing=fault), True)

    def test_what_returns_none(self):
        for name, args in (("deal", ((CHANGE,),)), ("change", (CHANGE,)), ("undo", ()), ("redo", ())):
            self.assertIsNone(getattr(ready_house(), name)(*args))


class NothingElseChanges(unittest.TestCase):
    def test_asking(self):
        found = ready_house()
        before, deals = found.copy(), found.deals()
        for name, _, args in METHODS:
            if name not in ("deal", "change", "undo", "redo"):
                self.assertEqual(getattr(found, name)(*args), getattr(found, name)(*args))
                self.assertEqual((found, found.deals()), (before, deals))
        found.redo()

    def test_what_is_passed(self):
        for name, _, args in METHODS:
            for thing in ANY_VALUES + tuple(changed_once(args[0]) if args else ()):
                if args and isinstance(thing, (list, dict)):
                    copied = copy.deepcopy(thing)
                    first = outcome(getattr(ready_house(), name), thing)
                    self.assertEqual(outcome(getattr(ready_house(), name), thing), first)
                    if "Console" not in repr(thing):
                        self.assertEqual(thing, copied)

    def test_errors_carry_what_was_passed(self):
        found = ready_house()
        for thing in ANY_VALUES:
            for call, name in ((found.web, "name"), (found.prices, "name"), (found.judged, "thing"),
                               (lambda value: found.change(("drop", value)), "name"),
                               (lambda value: found.change(("web", value, G)), "thing"),
                               (lambda value: found.change(("lift", "p", value)), "thing"),
                               (lambda value: found.change(("promise", value)), "thing"),
                               (lambda value: found.change(("release", value)), "thing"),
                               (lambda value: found.change(("prices", "q", value, ())), "name")):
                try:
                    call(thing)
                except PaceError as error:
                    self.assertIs(getattr(error, name), thing)
                else:
                    self.assertEqual(thing, "a")
                    found.undo()

    def test_each_call_answers_alike(self):
        for thing in ANY_VALUES:
            for name in ("deal", "change", "would", "judged"):
                found = ready_house()
                first = outcome(getattr(found, name), thing)
                self.assertEqual(outcome(getattr(ready_house(), name), thing), first)
                if first[0] is not None:
                    self.assertEqual((found, found.deals()), (ready_house(), ready_house().deals()))


if __name__ == "__main__":
    unittest.main()
