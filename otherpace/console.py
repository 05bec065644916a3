"""A console: commands, each a line of words, that work with a house."""

from otherpace.alike import are_alike
from otherpace.checks import check_length
from otherpace.errors import InvalidCommand, NoName, OtherWeb
from otherpace.groups import divisors_of, sign_of
from otherpace.growth import judge_growths
from otherpace.prices import judge_agree
from otherpace.rates import greatest_rate, least_rate
from otherpace.totals import told_totals
from otherpace.webs import web_text
from otherpace.within import judge_within
from otherpace.words import are_words, integer_word, is_promise_text, number_word, promise_of, worths_of

# Integers of commands have at most so many digits.
DIGITS = 4
# The words of each command behind its first one, but for "web", "promise" and "release".
FORMS = {
    "prices": ("name", "name", "row"),
    "drop": ("name",),
    "rename": ("name", "name"),
    "after": ("name", "natural", "natural", "natural"),
    "before": ("name", "natural", "natural", "natural"),
    "unafter": ("name", "natural", "natural", "natural"),
    "unbefore": ("name", "natural", "natural", "natural"),
    "pass": ("name", "natural"),
    "stretch": ("name", "natural", "natural"),
    "turn": ("name", "row"),
    "arrow": ("name", "natural", "natural"),
    "lift": ("name", "row"),
    "add": ("name", "name"),
    "undo": (),
    "redo": (),
    "names": (),
    "show": ("name",),
    "rounds": ("name", "natural"),
    "price": ("name",),
    "group": ("name",),
    "grows": ("name", "name"),
    "within": ("name", "name"),
    "alike": ("name", "name"),
    "agree": ("name", "name"),
}
DEEDS = ("after", "before", "unafter", "unbefore", "pass", "stretch", "turn")


def command_of(line):
    """The tuple of what the words of a command tell; raises InvalidCommand for any value that is
    no command."""
    if not isinstance(line, str):
        raise InvalidCommand()
    words = line.split(" ")
    rest = words[1:]
    if words[0] == "web" and len(rest) > 1:
        kinds = ("name",) + ("row",) * (len(rest) - 1)
        if are_words(kinds, rest, DIGITS):
            return ("web", rest[0], worths_of(kinds, rest)[1:])
    if words[0] in ("promise", "release") and is_promise_text(rest, DIGITS):
        return (words[0], promise_of(rest))
    if words[0] not in FORMS or not are_words(FORMS[words[0]], rest, DIGITS):
        raise InvalidCommand()
    return (words[0],) + worths_of(FORMS[words[0]], rest)


def yes_or_no(is_so):
    """The text of an answer."""
    return "yes" if is_so else "no"


def integers_text(row):
    """The text of integers."""
    return " ".join([integer_word(item) for item in row])


def names_text(house):
    """All names, or - if there are none."""
    return " ".join(house.names()) if house.names() else "-"


def show_text(house, name):
    """The text of a web, or the prices of a price row."""
    try:
        return web_text(house.web(name))
    except NoName:
        return integers_text(house.prices(name)[1])


def rounds_text(house, name, length):
    """The numbers of told rounds with the lengths from 1 to this one."""
    web = house.web(name)
    check_length(length, 1)
    return integers_text(told_totals(web, length))


def price_text(house, name):
    """The least and the greatest rate of a price row for times of 1."""
    about, row = house.prices(name)
    web = house.web(about)
    times = (1,) * len(row)
    return f"{number_word(least_rate(web, row, times))} {number_word(greatest_rate(web, row, times))}"


def group_text(house, name):
    """The sign of a web and its divisors."""
    web = house.web(name)
    return integers_text((sign_of(web),) + divisors_of(web))


def grows_text(house, name, other):
    """How the growth of a web compares with that of another one."""
    return judge_growths(house.web(name), house.web(other))[0]


def within_text(house, name, other):
    """Whether one web has, for every length, at most as many told rounds as another one."""
    return yes_or_no(judge_within(house.web(name), house.web(other))[0] == "within")


def alike_text(house, name, other):
    """Whether two webs are alike."""
    return yes_or_no(are_alike(house.web(name), house.web(other)))


def agree_text(house, name, other):
    """Whether two price rows ask the same of every round."""
    about, row = house.prices(name)
    other_about, other_row = house.prices(other)
    if about != other_about:
        raise OtherWeb()
    return yes_or_no(judge_agree(house.web(about), row, other_row)[0] == "heights")


ANSWERS = {
    "names": names_text,
    "show": show_text,
    "rounds": rounds_text,
    "price": price_text,
    "group": group_text,
    "grows": grows_text,
    "within": within_text,
    "alike": alike_text,
    "agree": agree_text,
}


class Console:
    """Commands that work with a house and change it."""

    def __init__(self, house):
        self.house = house

    def run(self, line):
        """Execute a command and return a text."""
        command = command_of(line)
        rest = command[1:]
        if command[0] in ANSWERS:
            answer = ANSWERS[command[0]]
            return answer(self.house, *rest)
        if command[0] == "undo":
            self.house.undo()
        elif command[0] == "redo":
            self.house.redo()
        elif command[0] in DEEDS:
            self.house.change(("deed", command[1], command[:1] + command[2:]))
        else:
            self.house.change(command)
        return "done"
