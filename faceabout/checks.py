"""The questions that arguments of any kind are asked first."""


def is_whole(value, least, most):
    """Whether any value is an integer from least to most."""
    # True and False are ints to Python, but no integers to the document.
    return isinstance(value, int) and not isinstance(value, bool) and least <= value <= most


def is_pair(value, most):
    """Whether any value is a pair of integers from 0 to most."""
    return isinstance(value, tuple) and len(value) == 2 and all([is_whole(item, 0, most) for item in value])


def is_stretch(value, most):
    """Whether any value is a pair of integers from 0 to most, the greater one not first."""
    return is_pair(value, most) and value[0] <= value[1]
