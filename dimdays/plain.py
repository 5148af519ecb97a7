"""What the other modules share: kinds of plain values, and numbers in texts."""

from dimdays.errors import InvalidText


def is_integer(value):
    """Tell whether a value is an integer; True and False are none."""
    return isinstance(value, int) and not isinstance(value, bool)


def is_number(value):
    """Tell whether a value is an integer from 0 on."""
    return is_integer(value) and value >= 0


def is_positive(value):
    """Tell whether a value is an integer from 1 on."""
    return is_integer(value) and value >= 1


def is_sequence(value):
    """Tell whether a value may be passed where a sequence is expected."""
    return isinstance(value, (list, tuple))


def is_numeral(word):
    """Tell whether a word is one or two decimal digits without a leading zero."""
    # Other alphabets have decimal digits, too; texts have only those of ASCII.
    if not word.isascii() or not word.isdecimal() or len(word) > 2:
        return False
    return len(word) == 1 or word[0] != "0"


def read_number(word):
    """Return the number that a word tells."""
    if not is_numeral(word):
        raise InvalidText(0)
    return int(word)


def read_span(word):
    """Return the two numbers that a word such as 2-5 tells."""
    parts = word.split("-")
    if len(parts) != 2:
        raise InvalidText(0)
    return read_number(parts[0]), read_number(parts[1])
