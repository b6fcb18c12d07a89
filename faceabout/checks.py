"""The questions that arguments of any kind are asked first."""


def is_whole(value, least, most):
    """Whether any value is an integer from least to most."""
    # True and False are ints to Python, but no integers to the document.
    return isinstance(value, int) and not isinstance(value, bool) and least <= value <= most


def is_stretch(value, most):
    """Whether any value is a pair of integers from 0 to most, the greater one not first."""
    if not isinstance(value, tuple) or len(value) != 2:
        return False
    first, last = value
    return is_whole(first, 0, most) and is_whole(last, first, most)
