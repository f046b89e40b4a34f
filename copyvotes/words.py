"""What counts as an integer, and how a number is checked and read."""

from copyvotes.errors import BadNumber

MOST_DIGITS = 4


def is_integer(value):
    """Tell whether the value is an integer; True and False are none."""
    return isinstance(value, int) and not isinstance(value, bool)


def check_number(what, value, low, high):
    """Return the value if it is an integer from low to high; None is no bound."""
    if not is_integer(value):
        raise BadNumber(what, value)
    if low is not None and value < low:
        raise BadNumber(what, value)
    if high is not None and value > high:
        raise BadNumber(what, value)
    return value


def is_number(text):
    """Tell whether the text is one that read_number reads."""
    # isdigit alone takes the digits of other scripts, too.
    if not text.isascii() or not text.isdigit() or len(text) > MOST_DIGITS:
        return False
    return text == "0" or not text.startswith("0")


def read_number(text):
    """Return the number from 0 to 9999 that the text tells."""
    if not is_number(text):
        raise BadNumber("number", text)
    return int(text)
