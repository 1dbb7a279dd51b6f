"""Questions about plain values that many modules ask."""


def is_count(value):
    """Whether any value is an integer that is at least 0."""
    return isinstance(value, int) and not isinstance(value, bool) and value >= 0


def is_list(value):
    """Whether any value may be passed where a list is asked for."""
    return isinstance(value, (list, tuple))
