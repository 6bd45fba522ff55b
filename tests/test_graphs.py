"""Points 180 to 185: graphs of jobs."""

import copy
import itertools
import random
import unittest

from kilnyard.errors import BuildError
from kilnyard.graphs import HasRing, depths_of, job_graph, order_of, reached_from, rings_of, users_of
from tests.helpers import GOALS, RULES, Yard, change_world, copies, joins, write_rules

FAILING = "rule {} :\nfail\nend\n"


class TestJobGraph(unittest.TestCase):
    def graph(self, recipes, goals, files=(), links=()):
        """The graph of the jobs of these goals; looking at it changes nothing."""
        yard = Yard(recipes, files, links)
        before = yard.all_kept()
        asked = goals.split()
        graph = job_graph(yard.tree, yard.book, yard.settings, asked)
        self.assertEqual((yard.all_kept(), asked), (before, goals.split()))
        self.assertEqual(sorted(graph), yard.nothing(*asked).jobs)
        return graph

    def test_no_jobs(self):
        self.assertEqual(self.graph(joins("a :"), ""), {})
        self.assertEqual(self.graph(joins("a :"), "rules no"), {})

    def test_jobs_that_make_inputs(self):
        self.assertEqual(self.graph(joins("a : c b s", "b : d", "c : d", "d :", "e : a"), "a", {"s": ""}),
                         {"a": ["b", "c"], "b": ["d"], "c": ["d"], "d": []})

    def test_an_input_that_stands_twice(self):
        self.assertEqual(self.graph(joins("a : b b", "b :"), "a a"), {"a": ["b"], "b": []})

    def test_jobs_are_named_by_their_first_outputs(self):
        self.assertEqual(self.graph('rule c b :\n put 1 ""\n put 2 ""\nend\n' + joins("a : b"), "a"),
                         {"a": ["c"], "c": []})

    def test_what_the_last_run_saw(self):
        recipes = 'rule a : b\n put 1 read("d") + read("s") + read("c")\nend\n' + joins("b :", "c :", "d :")
        self.assertEqual(self.graph(recipes, "a", {"s": ""}), {"a": ["b", "c", "d"], "b": [], "c": [], "d": []})

    def test_what_is_only_asked_for_is_no_edge(self):
        recipes = 'rule a :\n put 1 has("b") + list("", "*")\nend\n' + joins("b :")
        self.assertEqual(self.graph(recipes, "a b"), {"a": [], "b": []})

    def test_the_run_that_was_held_last(self):
        # `a` reads `b`, and is then held at `c`, which fails.
        recipes = 'rule a :\n put 1 read("b") + read("c")\nend\n' + joins("b :") + FAILING.format("c")
        self.assertEqual(self.graph(recipes, "a"), {"a": ["b", "c"], "b": [], "c": []})

    def test_a_run_that_failed(self):
        recipes = 'rule a :\n let x read("b")\n fail\nend\n' + joins("b :")
        self.assertEqual(self.graph(recipes, "a"), {"a": ["b"], "b": []})

    def test_a_tool_that_never_ran(self):
        recipes = 'rule a : b c no\n put 1 read("d")\nend\n' + FAILING.format("b") + joins("c :", "d :")
        self.assertEqual(self.graph(recipes, "a"), {"a": ["b", "c"], "b": [], "c": []})
        recipes = 'rule a : c no\n put 1 read("d")\nend\n' + joins("c :", "d :")
        self.assertEqual(self.graph(recipes, "a"), {"a": ["c"], "c": []})

    def test_links(self):
        recipes = 'rule a :\n put 1 read("l")\nend\n' + joins("b :")
        self.assertEqual(self.graph(recipes, "a", (), {"l": "b"}), {"a": ["b"], "b": []})

    def test_rings(self):
        self.assertEqual(self.graph(joins("a : a"), "a"), {"a": ["a"]})
        self.assertEqual(self.graph(copies(("a", "a")), "a"), {"a": ["a"]})
        self.assertEqual(self.graph(joins("a : b") + copies(("b", "a"), ("c", "c")), "a c"),
                         {"a": ["b"], "b": ["a"], "c": ["c"]})

    def test_settings(self):
        yard = Yard('rule a :\n put 1 read(setting("s"))\nend\n' + joins("b :", "c :"))
        for path in ("b", "c"):
            self.assertEqual(job_graph(yard.tree, yard.book, {"s": path}, ["a"]), {"a": [path], path: []})

    def test_too_many_jobs(self):
        recipes = "rule *.a : *.b\n put 1 stem\nend\nrule *.b : *.c\n put 1 stem\nend\nrule *.c :{}\nend\n"
        goals = [f"f{at}.a" for at in range(20)]
        yard = Yard(recipes.format("") + joins("z :"))
        graph = job_graph(yard.tree, yard.book, {}, goals)
        self.assertEqual((len(graph), graph["f7.a"], graph["f7.b"], graph["f7.c"]), (60, ["f7.b"], ["f7.c"], []))
        yard = Yard(recipes.format(" z") + joins("z :"))
        self.assertEqual(job_graph(yard.tree, yard.book, {}, goals), {})


# Graphs by the pairs of the names of their edges, and names without edges.
GRAPHS = ("", "a", "a b c", "ab", "ab bc", "ab ac bd cd", "aa", "aa b", "ab ba", "ab ba bc", "ca ab ba", "ab bc ca",
          "ab ba bc cd dc", "ab ba ac ca", "ab bb bc", "dc cb ba", "ad bd cd", "da db dc", "ab cd dc ee fa",
          "ab bc cb cd de ed ef")


def graph_of(words):
    graph = {}
    for word in words.split():
        for name in word:
            graph.setdefault(name, [])
        if len(word) == 2:
            graph[word[0]] = sorted(graph[word[0]] + [word[1]])
    return graph


def walk(graph, name):
    """The names that a name reaches, by trying ways that are as long as there are names."""
    found, present = set(), {name}
    for _ in graph:
        present = {other for each in present for other in graph[each]}
        found |= present
    return sorted(found)


class TestGraphs(unittest.TestCase):
    def check_all(self, graph):
        """All that is told of a graph, by what the document says of it."""
        before = copy.deepcopy(graph)
        reached = {name: reached_from(graph, name) for name in graph}
        for name in graph:
            self.assertEqual(reached[name], walk(graph, name))
            self.assertEqual(users_of(graph, name), sorted([user for user in graph if name in graph[user]]))
        ringed = [name for name in sorted(graph) if name in reached[name]]
        rings = rings_of(graph)
        self.assertEqual(sorted(itertools.chain(*rings)), ringed)
        self.assertEqual(rings, sorted([sorted(ring) for ring in rings]))
        for one, other in itertools.product(ringed, ringed):
            together = other in reached[one] and one in reached[other]
            self.assertEqual(any(one in ring and other in ring for ring in rings), together)
        self.check_order(graph)
        self.assertEqual(graph, before)

    def check_order(self, graph):
        """The order and the depths of a graph, or the names that remain."""
        order = []
        while True:
            free = [name for name in graph if name not in order and set(graph[name]) <= set(order)]
            if free == []:
                break
            order.append(min(free))
        remaining = sorted(set(graph) - set(order))
        if remaining == []:
            self.assertEqual(order_of(graph), order)
            depths = depths_of(graph)
            self.assertEqual(sorted(depths), sorted(graph))
            for name in graph:
                self.assertEqual(depths[name], 1 + max([depths[other] for other in graph[name]], default=-1))
            return
        for function in (order_of, depths_of):
            with self.assertRaises(HasRing) as caught:
                function(graph)
            self.assertEqual(caught.exception.names, remaining)

    def test_small_graphs(self):
        for words in GRAPHS:
            with self.subTest(words=words):
                self.check_all(graph_of(words))

    def test_all_graphs_of_three_names(self):
        edges = ["".join(pair) for pair in itertools.product("abc", repeat=2)]
        for kept in itertools.product((False, True), repeat=9):
            self.check_all(graph_of("a b c " + " ".join(itertools.compress(edges, kept))))

    def test_graphs_of_sixty_names(self):
        names = [f"n{at}" for at in range(60)]
        rng = random.Random(5)
        shapes = [{name: [] for name in names}, {name: sorted(names) for name in names},
                  {name: names[at + 1:at + 2] for at, name in enumerate(names)},
                  {name: [names[(at + 1) % 60]] for at, name in enumerate(names)},
                  {name: sorted(names[at + 1:]) for at, name in enumerate(names)}]
        shapes += [{name: sorted(rng.sample(names, rng.randrange(count))) for name in names} for count in (2, 3, 4)]
        for graph in shapes:
            self.check_all(graph)

    def test_some_by_hand(self):
        self.assertEqual(order_of({"a": ["b"], "b": [], "c": []}), ["b", "a", "c"])
        graph = graph_of("ab bc cb cd ee fa")
        self.assertEqual(rings_of(graph), [["b", "c"], ["e"]])
        self.assertEqual(reached_from(graph, "a"), ["b", "c", "d"])
        self.assertEqual(reached_from(graph, "e"), ["e"])
        self.assertEqual(reached_from(graph, "d"), [])
        self.assertEqual((users_of(graph, "b"), users_of(graph, "f")), (["a", "c"], []))
        self.assertEqual(depths_of(graph_of("ab bc ac d")), {"a": 2, "b": 1, "c": 0, "d": 0})
        with self.assertRaises(HasRing) as caught:
            order_of(graph)
        self.assertEqual(caught.exception.names, ["a", "b", "c", "e", "f"])
        self.assertIsInstance(caught.exception, BuildError)

    def test_the_names_of_an_error_are_copied(self):
        names = ["a"]
        error = HasRing(names)
        names.append("b")
        self.assertEqual(error.names, ["a"])

    def test_what_is_returned_is_new(self):
        graph = graph_of("ab bc cb")
        before = copy.deepcopy(graph)
        users_of(graph, "b").append("z")
        reached_from(graph, "b").append("z")
        rings_of(graph)[0].append("z")
        self.assertEqual((graph, rings_of(graph)), (before, [["b", "c"]]))
        graph = graph_of("ab")
        order_of(graph).append("z")
        depths_of(graph)["a"] = 7
        self.assertEqual((graph, order_of(graph), depths_of(graph)), (graph_of("ab"), ["b", "a"], {"a": 1, "b": 0}))


class TestJobGraphsOfWorlds(unittest.TestCase):
    def test_rings_and_orders_of_job_graphs(self):
        for seed in range(40):
            rng = random.Random(seed)
            yard = Yard("", {"a.c": "a", "b.c": "b", "pick": "1", "which": "a.o"}, {"ln": "a.c"})
            write_rules(lambda path, text: yard.write(**{path: text}), list(RULES))
            for _ in range(4):
                change_world(rng, lambda path, text: yard.write(**{path: text}), yard.tree.link,
                             lambda path: yard.tree.kind(path) == "none" or yard.tree.erase(path), yard.settings)
            graph = job_graph(yard.tree, yard.book, yard.settings, list(GOALS))
            nothing = yard.nothing(*GOALS)
            self.assertEqual(sorted(graph), nothing.jobs)
            for name in graph:
                self.assertEqual(graph[name], sorted(set(graph[name])))
                self.assertTrue(set(graph[name]) <= set(graph))
            self.assertEqual(rings_of(graph), nothing.rings)
            if nothing.rings == []:
                order = order_of(graph)
                self.assertEqual(sorted(order), sorted(graph))
            # A done job makes use of done jobs alone.
            for name in graph:
                if name in nothing.contents:
                    self.assertEqual([other for other in graph[name] if other in nothing.failures], [])


if __name__ == "__main__":
    unittest.main()
