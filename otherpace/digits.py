"""Integers from 0 on in texts.

Python itself neither writes nor reads integers of more than 4,300 digits, but
the powers of a web can be longer, so they are written and read in blocks.
"""

BLOCK_DIGITS = 64
# Integers with fewer bits have surely not too many digits.
SHORT_BITS = 13000


def natural_word(number):
    """An integer from 0 on as Python writes it, however long it is."""
    if number.bit_length() < SHORT_BITS:
        return str(number)
    block = 10 ** 64
    parts = []
    left = number
    while left >= block:
        left, part = divmod(left, block)
        parts.append(str(part).zfill(BLOCK_DIGITS))
    parts.append(str(left))
    return "".join(reversed(parts))


def is_natural_word(word):
    """Whether a string is an integer from 0 on, written as Python writes it."""
    # Strings with digits of other scripts are digits for Python, too.
    if not word.isascii() or not word.isdigit():
        return False
    return word == "0" or not word.startswith("0")


def natural_of(word):
    """The integer that a word as above tells, however long it is."""
    block = 10 ** 64
    first = len(word) % BLOCK_DIGITS
    number = int("0" + word[:first])
    for at in range(first, len(word), BLOCK_DIGITS):
        number = number * block + int(word[at:at + BLOCK_DIGITS])
    return number
