"""The text of what a house keeps."""

from otherpace.digits import natural_word
from otherpace.errors import BadText
from otherpace.promises import first_unkept, is_key, is_promise_in
from otherpace.webs import arrows_many, first_bad_line, is_web, rooms_told, row_of
from otherpace.words import integer_of, integer_word, is_integer_word, is_name
from otherpace.words import is_promise_text, promise_line, promise_of


def lines_of(kept):
    """The list of the lines of the text."""
    webs, rows, promises = kept
    lines = ["house"]
    for name in sorted(webs):
        lines.extend([f"is {name}", f"web {len(webs[name])}"])
        lines.extend([" ".join([natural_word(item) for item in row]) for row in webs[name]])
    for name in sorted(rows):
        about, row = rows[name]
        lines.append(" ".join(["prices", name, about] + [integer_word(item) for item in row]))
    lines.extend([promise_line(promise) for promise in promises])
    return lines


def kept_of(text):
    """What a house keeps whose text this is; raises BadText for any value that is no such text."""
    if not isinstance(text, str):
        raise BadText(0)
    lines = text.split("\n")
    if lines[0] != "house":
        raise BadText(1)
    webs, end = webs_told(lines)
    rows, end = rows_told(lines, end, webs)
    promises = promises_told(lines, end, (webs, rows, ()))
    kept = (webs, rows, promises)
    unkept = first_unkept(kept)
    if unkept:
        raise BadText(end + promises.index(unkept[0]) + 1)
    return kept


def webs_told(lines):
    """The pair of the dict of the webs of a text and of how many lines tell them, the first line
    included."""
    webs = {}
    at = 1
    last = ""
    while at < len(lines) and lines[at].split(" ")[0] == "is":
        words = lines[at].split(" ")
        # An empty string comes ahead of all names.
        if len(words) != 2 or not is_name(words[1]) or words[1] <= last:
            raise BadText(at + 1)
        last = words[1]
        webs[last] = web_told(lines, at + 1)
        at += 2 + len(webs[last])
    return (webs, at)


def web_told(lines, start):
    """The web whose text begins at a place of the lines."""
    many = rooms_told(lines[start]) if start < len(lines) else 0
    if many == 0:
        raise BadText(start + 1)
    end = start + first_bad_line(lines[start:], many)
    table = tuple([row_of(line) for line in lines[start + 1:end - 1]])
    # If rows are missing, it is no web either.
    if not is_web(table):
        raise BadText(end)
    return table


def rows_told(lines, start, webs):
    """The pair of the dict of the price rows of a text and of how many lines stand ahead of the
    promises."""
    rows = {}
    at = start
    last = ""
    while at < len(lines) and lines[at].split(" ")[0] == "prices":
        words = lines[at].split(" ")
        if len(words) < 3 or not is_name(words[1]) or words[1] <= last or words[1] in webs:
            raise BadText(at + 1)
        if not is_key(webs, words[2]) or not are_prices(webs[words[2]], words[3:]):
            raise BadText(at + 1)
        last = words[1]
        rows[last] = (words[2], tuple([integer_of(word) for word in words[3:]]))
        at += 1
    return (rows, at)


def are_prices(web, words):
    """Whether words are the integers of a price row of a web."""
    return len(words) == arrows_many(web) and all([is_integer_word(word) for word in words])


def promises_told(lines, start, kept):
    """The tuple of the promises of a text, which stand in all lines from a place on."""
    promises = []
    for number, line in enumerate(lines[start:], start=start + 1):
        words = line.split(" ")
        if not is_promise_text(words, 0) or not is_promise_in(kept, promise_of(words)):
            raise BadText(number)
        if promise_of(words) in promises:
            raise BadText(number)
        promises.append(promise_of(words))
    return tuple(promises)
