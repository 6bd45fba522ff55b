"""Rings of names that lead to each other. A graph is a dict from names to lists of names."""


def reach(graph, name):
    """A dict of True for each name that one comes to from a name by going one edge or more."""
    found = {}
    waiting = [name]
    while waiting != []:
        present = waiting.pop()
        for other in graph.get(present, ()):
            if other not in found:
                found[other] = True
                waiting.append(other)
    return found


def find_rings(graph):
    """The largest lists of names that all reach each other and themselves, in ascending order."""
    reached = {name: reach(graph, name) for name in graph}
    rings = []
    for name in sorted(graph):
        ring = [other for other in sorted(graph) if other in reached[name] and name in reached[other]]
        # Each ring is found at each of its names; the least one stands for it.
        if ring != [] and ring[0] == name:
            rings.append(ring)
    return rings
