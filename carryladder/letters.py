"""Words as strings of letters, and back."""


def string_of(width, words):
    """Return the string of words of this width."""
    return tuple([_letter_at(place, words) for place in range(width)])


def _letter_at(place, words):
    letter = 0
    for j, word in enumerate(words):
        letter |= (word >> place & 1) << j
    return letter


def words_of(many, string):
    """Return the tuple of the many words of which this is the string."""
    words = [0] * many
    for place, letter in enumerate(string):
        for j in range(many):
            words[j] |= (letter >> j & 1) << place
    return tuple(words)
