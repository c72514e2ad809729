"""Points in an order in which moves flip each bit of their numbers by the bits ahead of it alone."""


def orbit_of(point, moves):
    """Return the ascending list of the points to which moves lead a point, one behind another."""
    found = [point]
    at = 0
    while at < len(found):
        for own in moves:
            if own[found[at]] not in found:
                found.append(own[found[at]])
        at += 1
    return sorted(found)


def halved(points, moves):
    """Return points in such an order.

    They are a power of two in number, are led to one another by the moves, and each move is one to one, and brings
    each point back behind a power of two of times.
    """
    if len(points) == 1:
        return points
    partners = _partners(points, moves)
    firsts = sorted([point for point in points if point < partners[point]])
    leaders = {point: min(point, partners[point]) for point in points}
    # The pairs are put in order by the first points of them.
    order = halved(firsts, [{point: leaders[own[point]] for point in firsts} for own in moves])
    return [own for point in order for own in (point, partners[point])]


def _partners(points, moves):
    """Return a partner for each point, such that moves lead partners to partners."""
    for other in points[1:]:
        partners = _led(points[0], other, moves)
        if partners is not None:
            return partners
    return None


def _led(one, other, moves):
    """Return the partners that two points bring about, or None if some point has more than one."""
    partners = {one: other, other: one}
    line = [(one, other)]
    at = 0
    while at < len(line):
        for own in moves:
            p, q = own[line[at][0]], own[line[at][1]]
            if partners.get(p, q) != q or partners.get(q, p) != p:
                return None
            if p not in partners:
                partners[p] = q
                partners[q] = p
                line.append((p, q))
        at += 1
    return partners
