"""[0.2] and the interface of otherpace/errors.py: each error of the list."""

import inspect
import unittest

from otherpace import errors
from tests.samples import ANY_VALUES

LISTED = """
TooMany(most) TooManyRooms() BadText(line) BadTable(thing) BadWeb(thing) BadOrder(thing) BadLength(thing)
BadRoom(thing) BadWalk(thing) BadRound(thing) BadPrices(thing) BadTimes(thing) BadHeights(thing) BadNumbers(thing)
BadNumber(thing) BadCounts(thing) BadPoint(thing) BadPeriod(period) NotMore() BadDeed(thing) NoDeed(deed)
NoPrices(deed) BadChain(number) BadRow(thing) BadRooms(thing) BadDivisors(thing) BadSign(thing) BadPaper(thing)
BadName(thing) NoName(name) NameTaken(name) InUse(name) OtherWeb() BadPromise(thing) NoPromise(thing)
BadChange(number) Unkept(promise,fault) NothingToUndo() NothingToRedo() InvalidCommand()
"""


def listed():
    for word in LISTED.split():
        name, _, rest = word.rstrip(")").partition("(")
        yield getattr(errors, name), rest.split(",") if rest else []


class Errors(unittest.TestCase):
    def test_base_class(self):
        self.assertEqual(errors.PaceError.__bases__, (Exception,))
        for error, _ in listed():
            self.assertEqual(error.__bases__, (errors.PaceError,), error)
            self.assertEqual(error.__module__, "otherpace.errors")

    def test_nothing_else_is_defined(self):
        classes = {value for _, value in inspect.getmembers(errors, inspect.isclass)}
        self.assertEqual(classes, {error for error, _ in listed()} | {errors.PaceError})

    def test_by_position(self):
        for error, names in listed():
            made = error(*[(at, [name]) for at, name in enumerate(names)])
            self.assertEqual(vars(made), {name: (at, [name]) for at, name in enumerate(names)})

    def test_by_name(self):
        for error, names in listed():
            passed = {name: [name, None] for name in names}
            made = error(**passed)
            for name in names:
                self.assertIs(getattr(made, name), passed[name])

    def test_any_values(self):
        for error, names in listed():
            for value in ANY_VALUES:
                made = error(*[value for _ in names])
                for name in names:
                    self.assertIs(getattr(made, name), value)

    def test_too_few(self):
        for error, names in listed():
            if names:
                with self.assertRaises(TypeError):
                    error()
                with self.assertRaises(TypeError):
                    error(*names, None)

    def test_raised_and_caught(self):
        for error, names in listed():
            with self.assertRaises(errors.PaceError) as caught:
                raise error(*names)
            self.assertIs(caught.exception.__class__, error)


if __name__ == "__main__":
    unittest.main()
