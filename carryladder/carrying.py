"""Programs as machines, by what they keep from one place to the next."""

from carryladder.leastmachines import least
from carryladder.standings import standing_rows


def places(program):
    """Return to how many standings strings lead; raise TooMany(MAX_PLACES) if they are more."""
    return len(standing_rows(program))


def machine_of(program):
    """Return the least machine that program tells; raise TooMany(limit) as places, or if it is too great."""
    return least((program[0], standing_rows(program)))
