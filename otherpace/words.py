"""Words of texts and commands: names, integers, numbers and promises."""

from otherpace.digits import is_natural_word, natural_of, natural_word

LONGEST_NAME = 8
# The words of each promise behind its kind.
PROMISES = {
    "agree": ("name", "name", "natural"),
    "least": ("name", "integer", "positive"),
    "period": ("name", "natural"),
    "slower": ("name", "name"),
    "within": ("name", "name"),
    "alike": ("name", "name"),
}


def is_name(thing):
    """Whether any value is a name: one to eight letters from a to z."""
    if not isinstance(thing, str) or not 1 <= len(thing) <= LONGEST_NAME:
        return False
    return thing.isascii() and thing.isalpha() and thing.islower()


def integer_word(number):
    """An integer as Python writes it, however long it is."""
    return natural_word(number) if number >= 0 else "-" + natural_word(-number)


def is_integer_word(word):
    """Whether a string is an integer, written as Python writes it."""
    return is_natural_word(word) or (word != "-0" and word.startswith("-") and is_natural_word(word[1:]))


def integer_of(word):
    """The integer that a word as above tells, however long it is."""
    return -natural_of(word[1:]) if word.startswith("-") else natural_of(word)


def number_word(number):
    """The text of a number without a common divisor."""
    if number[1] == 1:
        return integer_word(number[0])
    return f"{integer_word(number[0])}/{integer_word(number[1])}"


def is_word(kind, word, digits):
    """Whether a string is a word of a kind; integers have at most so many digits, any number of them
    if this is 0."""
    if kind == "name":
        return is_name(word)
    if kind == "row":
        return all([is_word("integer", part, digits) for part in word.split(",")])
    if not is_integer_word(word) or (digits > 0 and len(word.removeprefix("-")) > digits):
        return False
    if kind == "integer":
        return True
    return not word.startswith("-") and (kind == "natural" or word != "0")


def worth_of(kind, word):
    """What a word of a kind tells."""
    if kind == "name":
        return word
    if kind == "row":
        return tuple([integer_of(part) for part in word.split(",")])
    return integer_of(word)


def are_words(kinds, words, digits):
    """Whether strings are words of so many kinds, in their sequence."""
    return len(words) == len(kinds) and all([is_word(kind, word, digits) for kind, word in zip(kinds, words)])


def worths_of(kinds, words):
    """The tuple of what words of kinds tell."""
    return tuple([worth_of(kind, word) for kind, word in zip(kinds, words)])


def is_promise_text(words, digits):
    """Whether words are those of a promise, whatever its names stand for."""
    if not words or words[0] not in PROMISES:
        return False
    return are_words(PROMISES[words[0]], words[1:], digits)


def promise_of(words):
    """The promise that words tell."""
    parts = worths_of(PROMISES[words[0]], words[1:])
    if words[0] == "least":
        return ("least", parts[0], parts[1:])
    return (words[0],) + parts


def promise_line(promise):
    """The text of a promise."""
    parts = promise[:2] + promise[2] if promise[0] == "least" else promise
    return " ".join([part if isinstance(part, str) else integer_word(part) for part in parts])
