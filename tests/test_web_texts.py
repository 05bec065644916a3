"""[1.4]: the texts of webs, and the line that tells why a text is none."""

import random
import unittest

from otherpace.errors import BadText
from otherpace.webs import power, web_of, web_text
from tests import plainly
from tests.samples import ANY_VALUES, EIGHT, G, HUGE, LOOPS, WEBS, random_tables


class WebText(unittest.TestCase):
    def test_examples(self):
        self.assertEqual(web_text(G), "web 2\n1 1\n1 0")
        self.assertEqual(web_text(LOOPS), "web 1\n2")
        self.assertEqual(web_text(((0, 12, 1), (1, 0, 0), (100, 0, 0))), "web 3\n0 12 1\n1 0 0\n100 0 0")

    def test_many_digits(self):
        nines = "9" * 40
        self.assertEqual(web_text(HUGE), f"web 3\n{nines} 0 1\n3 0 1{'0' * 39}\n0 7 0")
        for digits in (1, 19, 20, 63, 64, 65, 127, 128, 129, 500):
            for number in (10 ** digits - 1, 10 ** digits, 10 ** digits + 1, 7 * 10 ** digits // 9):
                if number >= 2:
                    self.assertEqual(web_text(((number,),)), f"web 1\n{number}")

    def test_longer_than_python_writes(self):
        self.assertEqual(web_text(((10 ** 5000,),)), "web 1\n1" + "0" * 5000)
        self.assertEqual(web_text(((10 ** 5000 - 1,),)), "web 1\n" + "9" * 5000)


class WebOf(unittest.TestCase):
    def check(self, text):
        line = plainly.web_text_fault(text)
        if line is None:
            self.assertEqual(web_text(web_of(text)), text)
            return
        with self.assertRaises(BadText, msg=repr(text)) as caught:
            web_of(text)
        self.assertEqual(caught.exception.line, line, repr(text))
        self.assertIs(type(caught.exception.line), int)

    def bad(self, text, line):
        with self.assertRaises(BadText, msg=repr(text)) as caught:
            web_of(text)
        self.assertEqual(caught.exception.line, line, repr(text))

    def test_back(self):
        for web in WEBS + tuple(power(HUGE, exponent) for exponent in (2, 3, 40)):
            self.assertEqual(web_of(web_text(web)), web)

    def test_longer_than_python_reads(self):
        web = power(power(HUGE, 40), 5)
        self.assertGreater(min(min(row) for row in web), 10 ** 5000)
        self.assertEqual(web_of(web_text(web)), web)

    def test_examples(self):
        self.bad("web 2\n0 1\n1 0", 4)
        self.bad("web 2\n1 1 1", 2)

    def test_no_string(self):
        for thing in ANY_VALUES + (b"web 1\n2", ["web 1", "2"], (("web 1\n2"),)):
            if not isinstance(thing, str):
                self.bad(thing, 0)
            else:
                self.check(thing)

    def test_first_line(self):
        for line in ("", "web", "web ", "web 0", "web 9", "web 10", "web -1", "web 02", "web +2", "web 2 ", " web 2",
                     "web  2", "Web 2", "web two", "web 2 2", "house", "web 2.0", "2", "1 1", "web 1_0", "web\t2"):
            self.bad(line + "\n1 1\n1 0", 1)
            self.bad(line, 1)
        self.bad("\nweb 2\n1 1\n1 0", 1)

    def test_rows(self):
        for row in ("", " ", "1", "1 1 1", "1  1", " 1 1", "1 1 ", "1 -1", "-0 1", "+1 1", "01 1", "1 00", "1 1_0",
                    "1 a", "1.0 1", "1,1", "1 1,", "True 1", "(1, 1)", "1\t1", "web 2", "0x1 1", "1e1 1"):
            self.bad(f"web 2\n{row}\n1 0", 2)
            self.bad(f"web 2\n1 1\n{row}", 3)
            self.bad(f"web 2\n{row}", 2)
            self.bad(f"web 2\n{row}\n{row}\n{row}", 2)

    def test_digits_of_other_scripts(self):
        for digit in ("\u0661", "\u00b2", "\uff11"):
            self.bad(f"web 2\n1 {digit}\n1 0", 2)
            self.bad(f"web {digit}\n2", 1)

    def test_too_many_lines(self):
        self.bad("web 2\n1 1\n1 0\n", 4)
        self.bad("web 2\n1 1\n1 0\n1 1", 4)
        self.bad("web 2\n1 1\n1 0\n1 1\nx", 4)
        self.bad("web 1\n2\nweb 1\n2", 3)
        self.bad("web 2\n0 1\n1 0\n1 1", 4)
        self.bad("web 2\n0 1\n1 0\n\n\n", 4)

    def test_missing_lines(self):
        self.bad("web 2", 2)
        self.bad("web 2\n1 1", 3)
        self.bad("web 8" + "\n1 1 1 1 1 1 1 1" * 7, 9)
        self.bad("web 2\n1 1\n", 3)
        self.bad("web 1\n", 2)
        self.bad("web 1", 2)

    def test_no_web(self):
        self.bad("web 1\n0", 3)
        self.bad("web 1\n1", 3)
        self.bad("web 3\n0 1 0\n0 0 1\n1 0 0", 5)
        self.bad("web 2\n1 1\n0 1", 4)
        self.bad("web 8" + "\n0 0 0 0 0 0 0 0" * 8, 10)
        self.assertEqual(web_of("web 1\n2"), LOOPS)

    def test_tables(self):
        for table in random_tables(3, 300, rooms=8, item=12):
            self.check("\n".join([f"web {len(table)}", *[" ".join(map(str, row)) for row in table]]))

    def test_one_letter_changed(self):
        for web in (G, LOOPS, HUGE):
            text = web_text(web)
            for at in range(len(text) + 1):
                for letter in ("", "0", "1", "9", " ", "\n", "-", "w", "\n\n", "  ", "\n1 0"):
                    self.check(text[:at] + letter + text[at:])
                    self.check(text[:at] + letter + text[at + 1:])
                self.check(text[:at])
                self.check(text[at:])

    def test_lines_moved(self):
        source = random.Random(4)
        lines = web_text(EIGHT).split("\n") + web_text(G).split("\n") + ["", "x", "0", "2"]
        for _ in range(2000):
            self.check("\n".join(source.choices(lines, k=source.randint(1, 5))))
        for _ in range(500):
            self.check("\n".join(["web 2"] + source.choices(["1 1", "0 1", "1 0", "2", "0 0", ""], k=source.randint(0, 3))))


if __name__ == "__main__":
    unittest.main()
