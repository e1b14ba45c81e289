"""Questions about plain values, and copies of them."""


def is_whole(value):
    """Whether the value is an integer. A flag is none, although Python derives flags from integers."""
    return isinstance(value, int) and not isinstance(value, bool)


def in_range(value, low, high):
    """Whether the value is an integer from low to high."""
    return is_whole(value) and low <= value <= high


def copy_lists(value):
    """The value with each list in it, at any depth, replaced by a copy."""
    if isinstance(value, list):
        return [copy_lists(item) for item in value]
    if isinstance(value, tuple):
        return tuple([copy_lists(item) for item in value])
    return value
