"""Classes of things that lead to one another."""


def classes_of(following):
    """Return for each node the number of its class, those that lead to one another being of one class.

    following tells for each node those to which it leads. A class has a lower number than others to which it leads.
    """
    ahead = [[] for _ in following]
    for node, nexts in enumerate(following):
        for other in nexts:
            ahead[other].append(node)
    classes = [None] * len(following)
    count = 0
    for node in reversed(_left(following)):
        if classes[node] is None:
            _spread(ahead, node, classes, count)
            count += 1
    return classes


def _left(following):
    """Return the nodes in the order in which a walk leaves them for good, deep ones first."""
    seen = [False] * len(following)
    order = []
    for start in range(len(following)):
        stack = []
        if not seen[start]:
            seen[start] = True
            stack.append((start, 0))
        while stack:
            node, at = stack.pop()
            if at == len(following[node]):
                order.append(node)
                continue
            stack.append((node, at + 1))
            other = following[node][at]
            if not seen[other]:
                seen[other] = True
                stack.append((other, 0))
    return order


def _spread(ahead, node, classes, number):
    """Give this number to the node, and to all that lead to it and have none yet."""
    classes[node] = number
    stack = [node]
    while stack:
        here = stack.pop()
        for other in ahead[here]:
            if classes[other] is None:
                classes[other] = number
                stack.append(other)
