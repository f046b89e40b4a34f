"""Exact fractions of integers."""

from math import gcd

from copyvotes.errors import BadNumber
from copyvotes.words import check_number, is_integer, is_number


class Ratio:
    """The fraction over / under, in lowest terms with a positive under."""

    def __init__(self, over, under=1):
        check_number("over", over, None, None)
        check_number("under", under, None, None)
        if under == 0:
            raise BadNumber("under", under)
        divisor = gcd(over, under)
        if under < 0:
            divisor = -divisor
        self.over = over // divisor
        self.under = under // divisor

    def __eq__(self, other):
        return isinstance(other, Ratio) and self.over == other.over and self.under == other.under

    def __lt__(self, other):
        right = ratio_of(other)
        if right is None:
            return NotImplemented
        return self.over * right.under < right.over * self.under

    def __le__(self, other):
        right = ratio_of(other)
        if right is None:
            return NotImplemented
        return self.over * right.under <= right.over * self.under

    def __gt__(self, other):
        right = ratio_of(other)
        if right is None:
            return NotImplemented
        return self.over * right.under > right.over * self.under

    def __ge__(self, other):
        right = ratio_of(other)
        if right is None:
            return NotImplemented
        return self.over * right.under >= right.over * self.under

    def __add__(self, other):
        right = ratio_of(other)
        if right is None:
            return NotImplemented
        over = self.over * right.under + right.over * self.under
        return Ratio(over, self.under * right.under)

    def __radd__(self, other):
        return self + other

    def __sub__(self, other):
        right = ratio_of(other)
        if right is None:
            return NotImplemented
        over = self.over * right.under - right.over * self.under
        return Ratio(over, self.under * right.under)

    def __rsub__(self, other):
        left = ratio_of(other)
        if left is None:
            return NotImplemented
        return left - self

    def __mul__(self, other):
        right = ratio_of(other)
        if right is None:
            return NotImplemented
        return Ratio(self.over * right.over, self.under * right.under)

    def __rmul__(self, other):
        return self * other

    def __str__(self):
        if self.under == 1:
            return str(self.over)
        return f"{self.over}/{self.under}"

    def divided(self, other):
        """Return the ratio divided by another one or by an integer."""
        right = ratio_of(other)
        if right is None:
            raise BadNumber("under", other)
        return Ratio(self.over * right.under, self.under * right.over)

    @staticmethod
    def half():
        """Return one half."""
        return Ratio(1, 2)


def ratio_of(value):
    """Return the ratio that a ratio or an integer counts as, None for other values."""
    if isinstance(value, Ratio):
        return value
    if is_integer(value):
        return Ratio(value)
    return None


def ratio_in(text):
    """Return the ratio that the text tells, None if it tells none."""
    try:
        return read_ratio(text)
    except BadNumber:
        return None


def read_ratio(text):
    """Return the ratio that the text tells: a number, or two joined by a slash."""
    over, slash, under = text.partition("/")
    if not is_number(over):
        raise BadNumber("ratio", text)
    if slash == "":
        return Ratio(int(over))
    if not is_number(under):
        raise BadNumber("ratio", text)
    return Ratio(int(over), int(under))
