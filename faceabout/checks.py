"""The one question that all arguments of any kind are asked first."""


def is_whole(value, least, most):
    """Whether any value is an integer from least to most."""
    # True and False are ints to Python, but no integers to the document.
    return isinstance(value, int) and not isinstance(value, bool) and least <= value <= most
