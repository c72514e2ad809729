"""Texts of several lines, told in one line."""


def in_one_line(text):
    """Return the text with "; " in the place of each line feed."""
    return text.replace("\n", "; ")


def in_lines(text):
    """Return the text with a line feed in the place of each "; "."""
    return text.replace("; ", "\n")
