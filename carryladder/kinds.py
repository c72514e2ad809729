"""Of what kind a value is that may be any value."""

from carryladder.bounds import MAX_NAME, MAX_WORDS


def is_integer(value, most):
    """Tell whether value is an integer from 0 to most."""
    return isinstance(value, int) and not isinstance(value, bool) and 0 <= value <= most


def is_tuple(value, fewest, most):
    """Tell whether value is a tuple of at least fewest and at most so many items."""
    return isinstance(value, tuple) and fewest <= len(value) <= most


def is_numeral(text, most):
    """Tell whether the str text is 0, or at most so many figures of which the first is no 0."""
    if not (text.isascii() and text.isdigit() and len(text) <= most):
        return False
    return text == "0" or text[0] != "0"


def is_name(value):
    """Tell whether value is a str of 1 to MAX_NAME small letters a to z."""
    if not (isinstance(value, str) and len(value) <= MAX_NAME):
        return False
    return value.isascii() and value.isalpha() and value.islower()


def head_error(value, most):
    """Return "form" or "many" if value is no pair (many, rows) of 1 to most rows, else None."""
    if not (is_tuple(value, 2, 2) and is_tuple(value[1], 1, most)):
        return "form"
    if not is_integer(value[0], MAX_WORDS):
        return "many"
    return None
