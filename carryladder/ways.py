"""Ways that lead several states at once."""


def string_leading(rows, states, goal):
    """Return the first shortest string of one letter or more that leads states to goal, or None.

    Both are tuples of states, each of which is led to that at its place.
    """
    strings = {}
    line = [(states, ())]
    at = 0
    while at < len(line):
        here, string = line[at]
        for letter in range(len(rows[0])):
            after = tuple([rows[state][letter][0] for state in here])
            if after == goal:
                return string + (letter,)
            if after not in strings:
                strings[after] = string + (letter,)
                line.append((after, strings[after]))
        at += 1
    return None
