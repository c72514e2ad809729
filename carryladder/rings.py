"""The rings of a turning."""


def rings(moves):
    """Return the ascending tuple of the rings of a turning, each told from its least state on."""
    told = [ring_from(moves, state) for state in range(len(moves))]
    return tuple([ring for state, ring in enumerate(told) if state in ring and state == min(ring)])


def ring_from(moves, state):
    """Return the ring of a turning that state is in, told from it on, or () if it is in none."""
    ring = [state]
    # Behind as many moves as there are states a state that has not come again never does.
    while len(ring) <= len(moves):
        if moves[ring[-1]] == state:
            return tuple(ring)
        ring.append(moves[ring[-1]])
    return ()
