"""[9.4]: texts of houses."""

import random
import re
import unittest

from otherpace.errors import BadText
from otherpace.house import House
from tests import keeping, plainly
from tests.samples import ANY_VALUES, G, LOOPS, NO_WEBS
from tests.test_promises import KEPT, full_house, full_keep

EXAMPLE = "house\nis g\nweb 2\n1 1\n1 0\nprices p g 5 2 1\nleast p 3 2"
INTEGER = r"(0|-?[1-9][0-9]*)"
NATURAL = r"(0|[1-9][0-9]*)"
POSITIVE = r"([1-9][0-9]*)"
NAME = r"([a-z]{1,8})"
PROMISES = {kind: re.compile(pattern, re.ASCII) for kind, pattern in (
    ("agree", f"agree {NAME} {NAME} {NATURAL}"), ("least", f"least {NAME} {INTEGER} {POSITIVE}"),
    ("period", f"period {NAME} {NATURAL}"), ("slower", f"(slower) {NAME} {NAME}"), ("within", f"(within) {NAME} {NAME}"),
    ("alike", f"(alike) {NAME} {NAME}"))}


def promise_of(line):
    kind = line.split(" ")[0]
    match = PROMISES[kind].fullmatch(line) if kind in PROMISES else None
    if match is None:
        return None
    parts = match.groups()
    if kind == "agree":
        return (kind, parts[0], parts[1], int(parts[2]))
    if kind == "least":
        return (kind, parts[0], (int(parts[1]), int(parts[2])))
    return (kind, parts[0], int(parts[1])) if kind == "period" else parts


def read(text):
    """The plain house of a text, or the number of the line that BadText tells."""
    if type(text) is not str:
        return 0
    lines = text.split("\n")
    keep = keeping.Keep()
    if lines[0] != "house":
        return 1
    part, last, at, numbers = "is", "", 1, []
    while at < len(lines):
        line = lines[at]
        if part == "is" and re.fullmatch("is " + NAME, line, re.ASCII):
            name = line[3:]
            if name <= last:
                return at + 1
            if at + 1 >= len(lines) or not re.fullmatch("web [1-8]", lines[at + 1]):
                return at + 2
            size = int(lines[at + 1][4:])
            rows = lines[at + 2:at + 2 + size]
            for number, row in enumerate(rows):
                if not re.fullmatch(NATURAL + f"( {NATURAL})" + "{%d}" % (size - 1), row, re.ASCII):
                    return at + 3 + number
            table = tuple(tuple(map(int, row.split(" "))) for row in rows)
            if not plainly.is_web(table):
                return at + 3 + len(rows)
            keep.webs[name] = table
            at, last = at + 2 + size, name
            continue
        match = re.fullmatch(f"prices {NAME} {NAME}(( {INTEGER})*)", line, re.ASCII)
        if match and part in ("is", "prices"):
            last = last if part == "prices" else ""
            part, name, about = "prices", match[1], match[2]
            row = tuple(map(int, match[3].split()))
            if name <= last or name in keep.webs or about not in keep.webs:
                return at + 1
            if len(row) != len(plainly.arrows(keep.webs[about])):
                return at + 1
            keep.rows[name] = (about, row)
            last = name
        else:
            part = "promises"
            promise = promise_of(line)
            if not keep.is_promise(promise) or promise in keep.promises:
                return at + 1
            keep.promises.append(promise)
            numbers.append(at + 1)
        at += 1
    unkept = keep.unkept()
    return keep if unkept is None else numbers[keep.promises.index(unkept)]


class Texts(unittest.TestCase):
    def check(self, text):
        expected = read(text)
        if isinstance(expected, int):
            with self.assertRaises(BadText, msg=text) as caught:
                House.read(text)
            self.assertEqual(vars(caught.exception), {"line": expected}, text)
        else:
            house = House.read(text)
            self.assertEqual(str(house), text)
            self.assertEqual(expected.text(), text)
            self.assertEqual(house.deals(), ())

    def test_example(self):
        house = House.read(EXAMPLE)
        self.assertEqual((house.web("g"), house.prices("p")), (G, ("g", (5, 2, 1))))
        self.assertEqual(house.promises(), (("least", "p", (3, 2)),))
        self.assertEqual(str(house), EXAMPLE)
        self.assertEqual(str(House()), "house")
        self.assertEqual(House.read("house"), House())

    def test_there_and_back(self):
        house, keep = full_house(), full_keep()
        for promise in KEPT:
            house.change(("promise", promise))
            keep.promises.append(promise)
            self.assertEqual(str(house), keep.text())
            other = House.read(str(house))
            self.assertEqual(other, house)
            self.assertEqual((other.deals(), str(other)), ((), str(house)))
            self.assertEqual(other.promises(), house.promises())

    def test_signs_and_great_integers(self):
        house = House()
        house.deal((("web", "g", ((10 ** 40 - 1, 1), (1, 0))), ("web", "c", LOOPS), ("prices", "p", "c", (-10 ** 30, 0)),
                    ("promise", ("least", "p", (-(10 ** 31), 7))), ("promise", ("agree", "p", "p", 10 ** 6))))
        self.assertIn("\nprices p c -1" + "0" * 30 + " 0\nleast p -1" + "0" * 31 + " 7\nagree p p 1000000", str(house))
        self.assertEqual(House.read(str(house)), house)

    def test_one_line_changed(self):
        house = full_house()
        for promise in (KEPT[0], KEPT[3], ("least", "p", (6, 4)), ("least", "v", (-1, 5)), ("period", "t", 2),
                        ("slower", "g", "c"), ("within", "g", "c"), ("alike", "g", "c")):
            house.change(("promise", promise))
        for text in (EXAMPLE, str(house)):
            lines = text.split("\n")
            for at, line in enumerate(lines):
                self.check("\n".join(lines[:at]))
                self.check("\n".join(lines[:at] + lines[at + 1:]))
                self.check("\n".join(lines[:at] + [line, line] + lines[at + 1:]))
                self.check("\n".join(lines[:at] + lines[at + 1:at + 2] + [line] + lines[at + 2:]))
                for other in near_lines(line):
                    self.check("\n".join(lines[:at] + [other] + lines[at + 1:]))
                for other in ("house", "is zz", "prices zz g 1 2 3", "period g 1", "web 1", "5", ""):
                    self.check("\n".join(lines[:at] + [other] + lines[at:]))

    def test_first_line_that_cannot_stand(self):
        for text, line in (
                ("", 1), ("House", 1), ("house ", 1), (" house", 1), ("house\n", 2), ("\nhouse", 1), ("house\nis", 2),
                ("house\nis ", 2), ("house\nis g", 3), ("house\nis g\nweb 2", 4), ("house\nis g\nweb 2\n1 1", 5),
                ("house\nis g\nweb 2\n1 1\n1", 5), ("house\nis g\nweb 9", 3), ("house\nis g\nis h", 3),
                ("house\nis g\nweb 1\n1", 5), ("house\nis g\nweb 1\n1\nnonsense", 5), ("house\nis g\nweb 1\n1\nis h", 5),
                ("house\nis g\nweb 1\n2\nis g\nweb 1\n2", 5), ("house\nis h\nweb 1\n2\nis g\nweb 1\n2", 5),
                ("house\nis A\nweb 1\n2", 2), ("house\nis abcdefghi\nweb 1\n2", 2), ("house\nis a b\nweb 1\n2", 2),
                ("house\nweb 1\n2", 2), ("house\nprices p g 1", 2), ("house\nis g\nweb 1\n2\nprices g g 1 2", 5),
                ("house\nis g\nweb 1\n2\nprices", 5), ("house\nis g\nweb 1\n2\nprices ", 5),
                ("house\nis g\nweb 1\n2\nprices p", 5), ("house\nis g\nweb 1\n2\nprices p ", 5),
                ("house\nis g\nweb 1\n2\nprices p g", 5), ("house\nis g\nweb 1\n2\nprices p g ", 5),
                ("house\nis g\nweb 1\n2\nprices p h 1 2", 5), ("house\nis g\nweb 1\n2\nprices p g 1 2 3", 5),
                ("house\nis g\nweb 1\n2\nprices p g 1 -0", 5), ("house\nis g\nweb 1\n2\nprices p g 1 01", 5),
                ("house\nis g\nweb 1\n2\nprices p g 1 +1", 5), ("house\nis g\nweb 1\n2\nprices p g 1  1", 5),
                ("house\nis g\nweb 1\n2\nprices q g 1 1\nprices p g 1 1", 6),
                ("house\nis g\nweb 1\n2\nprices p g 1 1\nis h\nweb 1\n2", 6),
                ("house\nis g\nweb 1\n2\nperiod g 1\nprices p g 1 1", 6),
                ("house\nis g\nweb 1\n2\nperiod g 1\nis h\nweb 1\n2", 6),
                ("house\nis g\nweb 1\n2\nperiod g 1\nperiod g 1", 6), ("house\nis g\nweb 1\n2\nperiod g 0", 5),
                ("house\nis g\nweb 1\n2\nperiod g 2", 5), ("house\nis g\nweb 1\n2\nperiod g 2\nperiod g 3", 5),
                ("house\nis g\nweb 1\n2\nperiod g 1\nperiod g 2\nalike g g", 6),
                ("house\nis g\nweb 1\n2\nperiod g 2\nalike g h", 6), ("house\nis g\nweb 1\n2\nalike g g\n", 6),
                ("house\nis g\nweb 1\n2\nperiod p 1", 5), ("house\nis g\nweb 1\n2\nslower g g", 5)):
            self.assertEqual(read(text), line, text)
            self.check(text)

    def test_webs_as_web_of_looks_at_them(self):
        for table in NO_WEBS:
            rows = "\n".join(" ".join(map(str, row)) for row in table)
            for behind in ("", "\nis z\nweb 1\n2", "\nnonsense", "\n"):
                self.check(f"house\nis g\nweb {len(table)}\n{rows}{behind}")

    def test_promises_that_are_not_kept(self):
        house = full_house()
        for broken, line in (("least p 8 5", 0), ("agree p r 0", 0), ("alike g h", 0), ("slower c g", 0), ("within t c", 0)):
            text = str(house) + "\nperiod t 2\n" + broken + "\nslower g g"
            with self.assertRaises(BadText) as caught:
                House.read(text)
            self.assertEqual(caught.exception.line, len(text.split("\n")) - 1)

    def test_values_of_all_kinds(self):
        for thing in ANY_VALUES:
            with self.assertRaises(BadText) as caught:
                House.read(thing)
            self.assertEqual(caught.exception.line, 1 if isinstance(thing, str) else 0)

    def test_random_texts(self):
        source = random.Random(971)
        lines = str(full_house()).split("\n") + ["period g 1", "alike g c", "least p 3 2", "agree p q 0"]
        for _ in range(300):
            chosen = list(lines)
            for _ in range(source.randint(1, 3)):
                at, other = source.randrange(len(chosen)), source.randrange(len(lines))
                chosen[at] = source.choice((chosen[at].replace("g", "c"), lines[other], chosen[at] + " 1"))
            self.check("\n".join(chosen))


def near_lines(line):
    """Lines that differ from a line in one place."""
    words = line.split(" ")
    found = [line + " ", " " + line, line + " 1", line.replace(" ", "  ", 1), line.upper(), line + "\r", line + "x",
             " ".join(words[:-1]), " ".join(words[::-1])]
    for at, word in enumerate(words):
        for other in ("0" + word, "-" + word, "+" + word, "", "1", "0", "-1", "x", "g", "p", "true", "1.0", "1_0", "\u0661"):
            found.append(" ".join(words[:at] + [other] + words[at + 1:]))
    return found


if __name__ == "__main__":
    unittest.main()
