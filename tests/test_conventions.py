"""[0.2]: names and sequences of arguments, that nothing passed is changed, equal answers."""

import copy
import inspect
import unittest

from otherpace import walks, webs
from otherpace.errors import PaceError
from tests.samples import ANY_VALUES, G, LOOPS

LAP = ((1, 0, 0), (0, 1, 0), (1, 0, 0), (0, 1, 0))
# Each function with its parameters as the interface writes them, and arguments that fit.
LISTED = (
    (webs.is_table, "(thing)", (G,)),
    (webs.is_web, "(thing)", (G,)),
    (webs.web_fault, "(table)", (((1, 1), (0, 1)),)),
    (webs.arrows, "(web)", (G,)),
    (webs.turned_web, "(web)", (((0, 2), (1, 0)),)),
    (webs.renamed_web, "(web, order)", (G, (1, 0))),
    (webs.power, "(web, length)", (G, 3)),
    (webs.web_text, "(web)", (G,)),
    (webs.web_of, "(text)", ("web 2\n1 1\n1 0",)),
    (walks.is_walk, "(web, thing)", (G, LAP)),
    (walks.is_round, "(web, thing)", (G, LAP)),
    (walks.is_told_round, "(web, thing)", (G, LAP)),
    (walks.turns, "(web, lap)", (G, LAP)),
    (walks.told_form, "(web, lap)", (G, LAP)),
    (walks.rounds, "(web, length, *, most=4096)", (G, 5)),
)


def outcome(function, *args, **named):
    """What a call returns, or the class of its error and what this carries."""
    try:
        return function(*args, **named)
    except PaceError as error:
        return (error.__class__, vars(error))


class Interface(unittest.TestCase):
    def test_parameters(self):
        for function, written, _ in LISTED:
            self.assertEqual(str(inspect.signature(function)), written, function)

    def test_defined_where_they_are_listed(self):
        for function, _, _ in LISTED[:9]:
            self.assertEqual(function.__module__, "otherpace.webs")
        for function, _, _ in LISTED[9:]:
            self.assertEqual(function.__module__, "otherpace.walks")

    def test_by_position_and_by_name(self):
        for function, _, args in LISTED:
            names = list(inspect.signature(function).parameters)
            named = dict(zip(names, args))
            expected = function(*args)
            self.assertEqual(function(**named), expected)
            self.assertEqual(function(**dict(reversed(named.items()))), expected)
            self.assertEqual(function(*args[:1], **{name: named[name] for name in list(named)[1:]}), expected)


class NothingChanges(unittest.TestCase):
    def test_arguments(self):
        for function, _, args in LISTED:
            for at in range(len(args)):
                for value in ANY_VALUES:
                    if isinstance(value, int) and not isinstance(value, bool):
                        continue
                    passed = args[:at] + (value,) + args[at + 1:]
                    shown = repr(passed)
                    copied = copy.deepcopy(value)
                    first = outcome(function, *passed)
                    self.assertEqual(repr(passed), shown)
                    if not isinstance(value, (tuple, PaceError)):
                        self.assertEqual(value, copied)
                    self.assertEqual(outcome(function, *passed), first)

    def test_same_call_same_answer(self):
        for function, _, args in LISTED:
            first = function(*args)
            outcome(function, *((LOOPS,) + args[1:]))
            self.assertEqual(function(*args), first)


if __name__ == "__main__":
    unittest.main()
