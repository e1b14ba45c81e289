"""Checks of values that are not about words."""

from lagbound.errors import BadNumber
from lagbound.plain import in_range


def check_number(value, low, high):
    """The value, if it is an integer from low to high."""
    if not in_range(value, low, high):
        raise BadNumber(value)
    return value
