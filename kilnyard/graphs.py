"""Graphs of jobs: dicts from names to the sorted lists of the names to which there are edges."""

from kilnyard.errors import BuildError
from kilnyard.plain import settled_build
from kilnyard.rings import find_rings, reach


class HasRing(BuildError):
    """A graph has no order; these names remain."""

    def __init__(self, names):
        BuildError.__init__(self, "a graph with a ring has no order")
        self.names = list(names)


def job_graph(tree, book, settings, goals):
    """The graph of the jobs that building from nothing needs."""
    plain = settled_build(tree, book, settings, goals)
    if plain is None:
        return {}
    return {name: plain.uses(name) for name in plain.jobs}


def users_of(graph, name):
    """The names with an edge to a name."""
    return [user for user in sorted(graph) if name in graph[user]]


def reached_from(graph, name):
    """The names to which one comes from a name by going one edge or more."""
    return sorted(reach(graph, name))


def rings_of(graph):
    """The largest lists of names that all reach each other and themselves."""
    return find_rings(graph)


def order_of(graph):
    """All names, each one behind the names to which its edges lead."""
    order = []
    remaining = sorted(graph)
    while remaining != []:
        free = [name for name in remaining if all([other in order for other in graph[name]])]
        if free == []:
            raise HasRing(remaining)
        order.append(free[0])
        remaining.remove(free[0])
    return order


def depths_of(graph):
    """A dict from the names to how many edges one can go from them."""
    depths = {}
    for name in order_of(graph):
        depths[name] = max([depths[other] + 1 for other in graph[name]], default=0)
    return depths
