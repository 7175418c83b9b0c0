"""What kind of value something is."""


def is_integer(value):
    """Whether any value is an integer; True and False are none."""
    return isinstance(value, int) and not isinstance(value, bool)


def is_count(value):
    """Whether any value is an integer of at least 0."""
    return is_integer(value) and value >= 0


def is_list(value):
    """Whether any value is a list, or a tuple in place of one."""
    return isinstance(value, (list, tuple))
