"""[0.2]: names and sequences of arguments, errors in their sequence, that nothing passed is
changed, equal answers."""

import copy
import inspect
import random
import unittest

from otherpace import webs
from otherpace.errors import PaceError, TooMany, TooManyRooms
from otherpace.house import House
from tests import plainly, taken
from tests.listed import LISTED, expected_error, function_of
from tests.right import is_row
from tests.samples import ANY_VALUES, LOOPS, NO_WEBS, changed_once

FUNCTIONS = [(function_of(module, name), args, checks) for module, name, _, args, checks in LISTED]
# What follows from arguments that fit.
LAST_ERRORS = ((TooMany, {"most": 4096}), (TooManyRooms, {}))
FUNCTIONS.append((webs.web_of, ("web 2\n1 1\n1 0",), ()))


def outcome(function, *args, **named):
    """What a call returns, or the class of its error and what this carries."""
    try:
        return function(*args, **named)
    except PaceError as error:
        return (error.__class__, vars(error))


def is_beyond(function, thing):
    """Whether a value is an integer, counts, a deed, a chain or a web that is too great to be passed
    as such."""
    if isinstance(thing, tuple) and {"deed", "chain"} & set(inspect.signature(function).parameters):
        deeds = [part for part in (thing,) + thing if taken.is_deed(((1,) * 9,) * 9, part)]
        if any(len(deed) == 4 and deed[3] > 20 for deed in deeds):
            return True
    if isinstance(thing, int):
        return abs(thing) > 10 ** 6
    if "counts" in inspect.signature(function).parameters and is_row(thing, 3):
        return sum(thing) > 10 ** 6
    return plainly.is_table(thing) and sum(map(sum, thing)) > 60


class Interface(unittest.TestCase):
    def test_parameters(self):
        for module, name, written, _, _ in LISTED:
            self.assertEqual(str(inspect.signature(function_of(module, name))), written, name)
        self.assertEqual(str(inspect.signature(webs.web_of)), "(text)")

    def test_defined_where_they_are_listed(self):
        for module, name, _, _, _ in LISTED:
            self.assertEqual(function_of(module, name).__module__, "otherpace." + module)

    def test_by_position_and_by_name(self):
        for function, args, _ in FUNCTIONS:
            names = list(inspect.signature(function).parameters)
            named = dict(zip(names, args))
            expected = function(*args)
            self.assertEqual(function(**named), expected)
            self.assertEqual(function(**dict(reversed(named.items()))), expected)
            self.assertEqual(function(*args[:1], **{name: named[name] for name in list(named)[1:]}), expected)


class Errors(unittest.TestCase):
    def check(self, function, args, checks):
        expected = expected_error(args, checks)
        if expected is None:
            answer = outcome(function, *args)
            if answer in LAST_ERRORS:
                self.assertIn(function.__name__, ("rounds", "stretched"))
            elif function.__name__.startswith(("is_", "are_")) or function.__name__.endswith("_holds"):
                self.assertIsInstance(answer, bool)
            else:
                self.assertFalse(isinstance(answer, tuple) and any(map(inspect.isclass, answer[:1])), (function, args))
            return
        with self.assertRaises(PaceError) as caught:
            function(*args)
        self.assertIs(caught.exception.__class__, expected.__class__, (function, args))
        for name, value in vars(expected).items():
            self.assertIs(getattr(caught.exception, name), value)
        self.assertEqual(vars(caught.exception), vars(expected))

    def test_one_wrong_argument(self):
        for function, args, checks in FUNCTIONS:
            for at in range(len(args)):
                things = ANY_VALUES + NO_WEBS + tuple(changed_once(args[at])) if at else ANY_VALUES + NO_WEBS
                for thing in things:
                    if function is not webs.web_of and not is_beyond(function, thing):
                        self.check(function, args[:at] + (thing,) + args[at + 1:], checks)

    def test_several_wrong_arguments(self):
        source = random.Random(31)
        for function, args, checks in FUNCTIONS[:-1]:
            near = [changed_once(arg) for arg in args]
            for _ in range(150):
                passed = list(args)
                for at in range(len(args)):
                    if source.random() < 0.5:
                        passed[at] = source.choice(source.choice((ANY_VALUES, near[at])))
                if not any(is_beyond(function, thing) for thing in passed):
                    self.check(function, tuple(passed), checks)


class NothingChanges(unittest.TestCase):
    def test_arguments(self):
        for function, args, _ in FUNCTIONS:
            for at in range(len(args)):
                for value in ANY_VALUES:
                    if isinstance(value, int) and not isinstance(value, bool):
                        continue
                    passed = args[:at] + (value,) + args[at + 1:]
                    shown = repr(passed)
                    copied = copy.deepcopy(value)
                    first = outcome(function, *passed)
                    self.assertEqual(repr(passed), shown)
                    if isinstance(value, House):
                        self.assertEqual((value, value.deals()), (copied, copied.deals()))
                    elif isinstance(value, dict):
                        self.assertEqual(value, copied)
                    self.assertEqual(outcome(function, *passed), first)

    def test_same_call_same_answer(self):
        for function, args, _ in FUNCTIONS:
            first = function(*args)
            outcome(function, *((LOOPS,) + args[1:]))
            self.assertEqual(function(*args), first)


if __name__ == "__main__":
    unittest.main()
