"""The console: commands that change a house and commands that ask."""

import random
import unittest

from otherpace import errors
from otherpace.alike import are_alike
from otherpace.console import Console
from otherpace.errors import BadLength, BadPeriod, InvalidCommand, NoName, NotMore, NothingToRedo, NothingToUndo
from otherpace.errors import OtherWeb, PaceError
from otherpace.groups import divisors_of, sign_of
from otherpace.growth import judge_growths
from otherpace.house import House
from otherpace.numbers import rounds_many
from otherpace.rates import greatest_rate, least_rate
from otherpace.within import judge_within
from tests.samples import ANY_VALUES, G
from tests.test_house import first_house, outcome
from tests.test_promises import ROWS, WEBS, full_house

# Commands and the changes that they are.
CHANGES = (
    ("web new 1 1,0", None), ("web new 1,1 1,0", ("web", "new", ((1, 1), (1, 0)))), ("web new 2", ("web", "new", ((2,),))),
    ("web abcdefgh 0,9999 1,0", ("web", "abcdefgh", ((0, 9999), (1, 0)))), ("web new -1,2 1,1", ("web", "new", ((-1, 2), (1, 1)))),
    ("web g 2", ("web", "g", ((2,),))), ("web p 2", ("web", "p", ((2,),))), ("web new 1", ("web", "new", ((1,),))),
    ("web new 1,1 1", ("web", "new", ((1, 1), (1,)))),
    ("prices new g 5,-2,0", ("prices", "new", "g", (5, -2, 0))), ("prices p g 9,9,9", ("prices", "p", "g", (9, 9, 9))),
    ("prices p g 0,0,0", ("prices", "p", "g", (0, 0, 0))), ("prices new g 5", ("prices", "new", "g", (5,))),
    ("prices c g 5,2,1", ("prices", "c", "g", (5, 2, 1))), ("prices new x 5", ("prices", "new", "x", (5,))),
    ("drop c", ("drop", "c")), ("drop g", ("drop", "g")), ("drop x", ("drop", "x")),
    ("rename g other", ("rename", "g", "other")), ("rename g p", ("rename", "g", "p")), ("rename x g", ("rename", "x", "g")),
    ("after e 0 1 2", ("deed", "e", ("after", 0, 1, 2))), ("before e 1 0 9999", ("deed", "e", ("before", 1, 0, 9999))),
    ("unafter e 1 0 1", ("deed", "e", ("unafter", 1, 0, 1))), ("unbefore e 0 1 1", ("deed", "e", ("unbefore", 0, 1, 1))),
    ("after e 0 1 0", ("deed", "e", ("after", 0, 1, 0))), ("after e 0 0 1", ("deed", "e", ("after", 0, 0, 1))),
    ("after g 0 1 1", ("deed", "g", ("after", 0, 1, 1))), ("pass g 1", ("deed", "g", ("pass", 1))),
    ("pass g 0", ("deed", "g", ("pass", 0))), ("pass p 1", ("deed", "p", ("pass", 1))),
    ("stretch c 0 0", ("deed", "c", ("stretch", 0, 0))), ("stretch c 0 1", ("deed", "c", ("stretch", 0, 1))),
    ("turn g 1,0", ("deed", "g", ("turn", (1, 0)))), ("turn g 0,-1", ("deed", "g", ("turn", (0, -1)))),
    ("turn c 0", ("deed", "c", ("turn", (0,)))), ("arrow e 1 1", ("arrow", "e", 1, 1)), ("arrow g 1 1", ("arrow", "g", 1, 1)),
    ("arrow e 2 0", ("arrow", "e", 2, 0)), ("lift p 0,-7", ("lift", "p", (0, -7))), ("lift p 0", ("lift", "p", (0,))),
    ("lift g 0,1", ("lift", "g", (0, 1))), ("add p q", ("add", "p", "q")), ("add p u", ("add", "p", "u")),
    ("promise agree p q 0", ("promise", ("agree", "p", "q", 0))), ("promise agree p q 9999", ("promise", ("agree", "p", "q", 9999))),
    ("promise agree p r 0", ("promise", ("agree", "p", "r", 0))), ("promise least p 6 4", ("promise", ("least", "p", (6, 4)))),
    ("promise least p -9999 9999", ("promise", ("least", "p", (-9999, 9999)))), ("promise least p 9 1", ("promise", ("least", "p", (9, 1)))),
    ("promise least p 3 2", ("promise", ("least", "p", (3, 2)))), ("promise period t 2", ("promise", ("period", "t", 2))),
    ("promise period t 0", ("promise", ("period", "t", 0))), ("promise period p 1", ("promise", ("period", "p", 1))),
    ("promise slower g c", ("promise", ("slower", "g", "c"))), ("promise within g c", ("promise", ("within", "g", "c"))),
    ("promise within t c", ("promise", ("within", "t", "c"))), ("promise alike g c", ("promise", ("alike", "g", "c"))),
    ("release least p 3 2", ("release", ("least", "p", (3, 2)))), ("release least p 6 4", ("release", ("least", "p", (6, 4)))),
    ("release agree p q 0", ("release", ("agree", "p", "q", 0))), ("release period g 1", ("release", ("period", "g", 1))),
)
ASKING = ("names", "show g", "show p", "rounds g 9", "price p", "group g", "grows g c", "within g c", "alike g c", "agree p q")
ONE_MORE = ("undo", "redo")


def house_with_promise():
    house = full_house()
    house.change(("promise", ("least", "p", (3, 2))))
    return house


class Examples(unittest.TestCase):
    def test_all(self):
        console = Console(first_house())
        for line, answer in (("rounds g 5", "1 1 1 1 2"), ("price p", "3/2 5"), ("group g", "-1"), ("web c 2", "done"),
                             ("alike g c", "yes"), ("grows g c", "less"), ("names", "c g p"), ("within g c", "yes"),
                             ("grows c g", "more"), ("grows g g", "equal"), ("show g", "web 2\n1 1\n1 0"), ("show p", "5 2 1"),
                             ("undo", "done"), ("names", "g p"), ("redo", "done"), ("agree p p", "yes"),
                             ("lift p 0,7", "done"), ("show p", "5 9 -6"), ("pass g 1", "done"), ("show g", "web 1\n2"),
                             ("show p", "5 3"), ("price p", "3 5")):
            self.assertEqual(console.run(line), answer, line)

    def test_its_house(self):
        house = first_house()
        console = Console(house)
        self.assertIs(console.house, house)
        console.run("web c 2")
        self.assertEqual(house.names(), ("c", "g", "p"))
        house.undo()
        self.assertEqual(console.run("names"), "g p")
        self.assertEqual(Console(House()).run("names"), "-")


class Changing(unittest.TestCase):
    def test_the_same_as_in_a_house(self):
        kinds = set()
        for line, change in CHANGES:
            if change is None:
                change = ("web", "new", ((1,), (1, 0)))
            house, other = house_with_promise(), house_with_promise()
            expected = outcome(house.change, change)
            kinds.add(expected[0])
            found = outcome(Console(other).run, line)
            self.assertEqual(found, (None, "done") if expected[0] is None else expected, line)
            self.assertEqual((other, other.deals()), (house, house.deals()))
        self.assertGreaterEqual(len(kinds), 14)

    def test_undo_and_redo(self):
        house = house_with_promise()
        console = Console(house)
        states = [house.copy()]
        for line in ("web new 2", "lift p 0,3", "drop new"):
            self.assertEqual(console.run(line), "done")
            states.append(house.copy())
        for state in states[-2::-1]:
            self.assertEqual(console.run("undo"), "done")
            self.assertEqual(house, state)
        for state in states[1:]:
            self.assertEqual(console.run("redo"), "done")
            self.assertEqual(house, state)
        with self.assertRaises(NothingToRedo):
            console.run("redo")
        with self.assertRaises(NothingToUndo):
            Console(House()).run("undo")

    def test_names_that_are_words_of_commands(self):
        console = Console(House())
        for line, names in (("web undo 2", "undo"), ("web x 1,1 1,0", "undo x"), ("rename x redo", "redo undo"),
                            ("drop undo", "redo"), ("rename redo undo", "undo"), ("web names 3", "names undo"),
                            ("rename names redo", "redo undo"), ("drop redo", "undo"), ("drop undo", "-")):
            self.assertEqual(console.run(line), "done")
            self.assertEqual(console.run("names"), names, line)


class Asking(unittest.TestCase):
    def test_webs(self):
        house = full_house()
        console = Console(house)
        for name, web in WEBS.items():
            self.assertEqual(console.run("show " + name), "\n".join(
                ["web %d" % len(web)] + [" ".join(map(str, row)) for row in web]))
            for most in (1, 2, 12):
                told = [rounds_many(web, length) for length in range(1, most + 1)]
                self.assertEqual(console.run(f"rounds {name} {most}"), " ".join(map(str, told)))
            group = (sign_of(web),) + divisors_of(web)
            self.assertEqual(console.run("group " + name), " ".join(map(str, group)))
            for other, other_web in WEBS.items():
                self.assertEqual(console.run(f"grows {name} {other}"), judge_growths(web, other_web)[0])
                self.assertEqual(console.run(f"alike {name} {other}"), "yes" if are_alike(web, other_web) else "no")
                kind, carried = outcome(judge_within, web, other_web)
                expected = (kind, carried) if kind else (None, "yes" if carried[0] == "within" else "no")
                self.assertEqual(outcome(console.run, f"within {name} {other}"), expected)
        self.assertEqual(house, full_house())
        self.assertEqual(console.run("group n"), "0 0")
        self.assertEqual(console.run("group e"), "1")
        self.assertEqual(console.run("group h"), "-1 4")
        self.assertEqual(console.run("within t c"), "no")
        for line, error in (("within c g", NotMore), ("within g t", BadPeriod)):
            with self.assertRaises(error):
                console.run(line)

    def test_prices(self):
        house = full_house()
        house.deal((("prices", "w", "c", (-3, -5)), ("prices", "x", "t", (0, 0, -1))))
        console = Console(house)
        for name in ROWS:
            about, row = house.prices(name)
            web = house.web(about)
            self.assertEqual(console.run("show " + name), " ".join(map(str, row)))
            ones = (1,) * len(row)
            numbers = [least_rate(web, row, ones), greatest_rate(web, row, ones)]
            words = [str(top) if bottom == 1 else f"{top}/{bottom}" for top, bottom in numbers]
            self.assertEqual(console.run("price " + name), " ".join(words))
        self.assertEqual(console.run("price w"), "-5 -3")
        self.assertEqual(console.run("price x"), "-1/2 -1/2")
        for one in ROWS:
            for other in ROWS:
                if ROWS[one][0] == ROWS[other][0]:
                    agree = house.judged(("agree", one, other, 0)) == ("kept",)
                    self.assertEqual(console.run(f"agree {one} {other}"), "yes" if agree else "no")
                else:
                    with self.assertRaises(OtherWeb):
                        console.run(f"agree {one} {other}")

    def test_names_of_something_else(self):
        console = Console(full_house())
        for line, name in (("show z", "z"), ("rounds p 3", "p"), ("rounds z 0", "z"), ("price g", "g"), ("price z", "z"),
                           ("group p", "p"), ("grows g p", "p"), ("grows p z", "p"), ("within z p", "z"), ("within g p", "p"),
                           ("within p g", "p"), ("alike g z", "z"), ("alike p z", "p"), ("agree g z", "g"), ("agree p g", "g"),
                           ("agree p z", "z"), ("rounds p 0", "p")):
            with self.assertRaises(NoName) as caught:
                console.run(line)
            self.assertEqual(vars(caught.exception), {"name": name}, line)
        with self.assertRaises(BadLength) as caught:
            console.run("rounds g 0")
        self.assertEqual(vars(caught.exception), {"thing": 0})

    def test_nothing_changes(self):
        house = full_house()
        before, deals = house.copy(), house.deals()
        console = Console(house)
        for line in ASKING:
            self.assertEqual(console.run(line), console.run(line))
            self.assertIsInstance(console.run(line), str)
        self.assertEqual((house, house.deals()), (before, deals))


class NoCommands(unittest.TestCase):
    def check_invalid(self, line):
        house = house_with_promise()
        with self.assertRaises(InvalidCommand, msg=line) as caught:
            Console(house).run(line)
        self.assertEqual(vars(caught.exception), {})
        self.assertEqual(house, house_with_promise())

    def test_nearly_commands(self):
        for line in [line for line, _ in CHANGES] + list(ASKING + ONE_MORE):
            for other in (line + " ", " " + line, line + "\n", "\n" + line, line.upper(), line.title(), line + " \n",
                          line.replace(" ", "  ", 1) + "  ", line.replace(" ", "\t", 1) + "\t", line + "\r"):
                self.check_invalid(other)
            words = line.split(" ")
            for at, word in enumerate(words):
                for other in wrong_words(words, at):
                    self.check_invalid(" ".join(words[:at] + [other] + words[at + 1:]))

    def test_numbers_of_words(self):
        for line in [line for line, _ in CHANGES] + list(ASKING + ONE_MORE):
            words = line.split(" ")
            if words[0] == "web":
                self.check_invalid(" ".join(words[:2]))
                self.check_invalid(words[0])
                self.check_invalid(line + " x")
                continue
            for many in range(len(words)):
                self.check_invalid(" ".join(words[:many]))
            for more in ("1", "g", "0,1", "-1"):
                self.check_invalid(line + " " + more)

    def test_single_lines(self):
        for line in ("", " ", "\n", "-", "done", "web", "web g", "prices p g", "prices p g 1,2,x", "prices p g 1, 2,3", "turn g",
                     "turn g ", "turn g 1,0,", "after g 0 1", "after g 0 1 1 1", "after g 0 1 -1", "after g 0 1 10000",
                     "after g 00 1 1", "after g 0 1 01", "after g 0 1 1.", "pass g", "pass g -1", "stretch g 0", "deed g 0 1",
                     "arrow g 0", "arrow g 0 1 2", "lift p 0,10000", "lift p 0,-10000", "lift p -0,1", "lift p 0 1",
                     "promise", "promise least p 1 0", "promise least p 1 -1", "promise least p 1", "promise least p -0 1",
                     "promise least p 10000 1", "promise least p 1 10000", "promise agree p q", "promise agree p q -1",
                     "promise agree p q 10000", "promise period g", "promise period g -1", "promise slower g",
                     "promise slower g c c", "promise kept g c", "promise ", "release", "release least", "promise least P 1 2",
                     "undo 1", "redo ", "names g", "show", "show g p", "rounds g", "rounds g -1", "rounds g 10000", "rounds g 01",
                     "rounds g 5 5", "price", "group g g", "grows g", "within g", "alike g", "agree p", "agree p q 0", "house",
                     "show g\nshow g", "names\n", "web g 1,1\n1,0", "web g 1,1 1,0 ", "web g 1, 1", "web g 12345", "show \u00e4"):
            self.check_invalid(line)

    def test_four_digits(self):
        console = Console(full_house())
        for line, error in (("pass g 9999", errors.BadDeed), ("arrow e 9999 0", errors.BadRoom),
                            ("lift p 9999,-9999,0", errors.BadHeights), ("turn g 9999,0", errors.BadDeed),
                            ("web z -9999", errors.BadWeb), ("promise period g 9999", errors.Unkept),
                            ("web z 1 2 3", errors.BadWeb)):
            with self.assertRaises(error):
                console.run(line)
        self.assertEqual(console.run("web z 9999"), "done")
        self.assertEqual(console.run("promise least p -9999 1"), "done")

    def test_values_of_all_kinds(self):
        console = Console(house_with_promise())
        for thing in ANY_VALUES + (("show", "g"), ["show g"], b"show g", console, console.house):
            with self.assertRaises(InvalidCommand):
                console.run(thing)


def wrong_words(words, at):
    """Words that cannot stand at a place of a command."""
    word = words[at]
    found = ["", word + "\n", "\n" + word, word + ".0", " " + word, "+" + word, word + "\t"]
    if word.isalpha():
        return found + [word.upper(), word.title(), word + "-", word + "1", "abcdefghi", "\u00e4"]
    found += ["0" + word, "-0", "10000", "--1", "1,,2", word + ",", "," + word, "\u0661", "1_0", "0x1", "x"]
    # Only rows and TOP may have signs.
    may_have_sign = words[0] in ("web", "prices", "turn", "lift") or words[1] == "least" and at == 3
    return found + ([] if may_have_sign else ["-" + word, "-1"])


class Largest(unittest.TestCase):
    def test_many_commands(self):
        source = random.Random(981)
        console = Console(full_house())
        console.run("promise least p 3 2")
        lines = [line for line, _ in CHANGES] + list(ASKING + ONE_MORE)
        done = 0
        for _ in range(600):
            try:
                done += console.run(source.choice(lines)) == "done"
            except PaceError:
                pass
        self.assertGreater(done, 30)
        self.assertEqual(House.read(str(console.house)), console.house)
        self.assertEqual(G, ((1, 1), (1, 0)))


if __name__ == "__main__":
    unittest.main()
