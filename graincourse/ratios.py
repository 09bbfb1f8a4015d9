"""Exact fractions, as pairs (numerator, denominator) in lowest terms."""

from graincourse.errors import InvalidFraction

MOST_DIGITS = 30

ZERO = (0, 1)
ONE = (1, 1)


def common_divisor(one, other):
    """Return the greatest common divisor of two integers, 0 for two zeros."""
    one, other = abs(one), abs(other)
    while other:
        one, other = other, one % other
    return one


def reduced(numerator, denominator):
    """Return the fraction of two integers."""
    if denominator == 0:
        raise InvalidFraction()
    shared = common_divisor(numerator, denominator)
    if denominator < 0:
        shared = -shared
    return (numerator // shared, denominator // shared)


def is_number(value):
    """Return whether a value is an integer; True and False are none."""
    return isinstance(value, int) and not isinstance(value, bool)


def is_fraction(value):
    """Return whether a tuple of integers is a fraction."""
    if len(value) != 2 or not all([is_number(item) for item in value]):
        return False
    numerator, denominator = value
    return denominator > 0 and common_divisor(numerator, denominator) == 1


def plus(*parts):
    """Return the sum of any number of fractions."""
    return total(parts)


def times(*parts):
    """Return the product of any number of fractions."""
    numerator = denominator = 1
    for above, below in parts:
        numerator *= above
        denominator *= below
    return reduced(numerator, denominator)


def total(parts):
    """Return the sum of a list of fractions."""
    numerator, denominator = 0, 1
    for above, below in parts:
        # Without this the denominator would grow even if all are equal.
        shared = common_divisor(denominator, below)
        numerator = numerator * (below // shared) + above * (denominator // shared)
        denominator *= below // shared
    return reduced(numerator, denominator)


def negative(part):
    """Return the fraction with the other sign."""
    numerator, denominator = part
    return (-numerator, denominator)


def order(one, other):
    """Return -1, 0 or 1 if a fraction is less than, equal to or greater than another one."""
    left = one[0] * other[1]
    right = other[0] * one[1]
    if left == right:
        return 0
    return -1 if left < right else 1


def number_text(number):
    """Return the decimal text of an integer of any length."""
    # Python itself writes only a few thousand digits at once.
    group = 10 ** 64
    rest = abs(number)
    texts = []
    while rest >= group:
        rest, low = divmod(rest, group)
        texts.append(str(low).zfill(64))
    sign = "-" if number < 0 else ""
    return sign + str(rest) + "".join(reversed(texts))


def ratio_text(part):
    """Return the text of a fraction."""
    numerator, denominator = part
    if denominator == 1:
        return number_text(numerator)
    return f"{number_text(numerator)}/{number_text(denominator)}"


def is_digits(text):
    """Return whether a text consists of digits, and of no more than a number has."""
    return text.isascii() and text.isdigit() and len(text) <= MOST_DIGITS


def parse_ratio(text):
    """Return the fraction that a text writes."""
    numerator, slash, denominator = text.partition("/")
    if not slash:
        denominator = "1"
    if not is_digits(numerator.removeprefix("-")) or not is_digits(denominator):
        raise InvalidFraction()
    part = reduced(int(numerator), int(denominator))
    # Each fraction has one text: this refuses 2/4, 01, -0 and 1/1.
    if ratio_text(part) != text:
        raise InvalidFraction()
    return part
