"""The rings of points 73 and 74: names that lead to each other."""

import unittest

from kilnyard.rings import find_rings, reach


class TestReach(unittest.TestCase):
    GRAPH = {"a": ["b", "c"], "b": ["d"], "c": ["d"], "d": ["b"], "e": ["e"], "f": []}

    def test_reach(self):
        for name, reached in (("a", "bcd"), ("b", "bd"), ("d", "bd"), ("e", "e"), ("f", "")):
            with self.subTest(name=name):
                self.assertEqual(sorted(reach(self.GRAPH, name)), list(reached))

    def test_names_outside_of_the_graph_lead_nowhere(self):
        self.assertEqual(sorted(reach({"a": ["b", "x"], "b": ["y"]}, "a")), ["b", "x", "y"])

    def test_the_graph_stays_as_it_is(self):
        graph = {"a": ["b"], "b": ["a", "c"]}
        reach(graph, "a")
        find_rings(graph)
        self.assertEqual(graph, {"a": ["b"], "b": ["a", "c"]})


class TestFindRings(unittest.TestCase):
    def check(self, graph, rings):
        with self.subTest(graph=graph):
            self.assertEqual(find_rings(graph), rings)

    def test_no_rings(self):
        self.check({}, [])
        self.check({"a": []}, [])
        self.check({"a": ["b"], "b": ["c"], "c": []}, [])
        self.check({"a": ["b", "c"], "b": ["d"], "c": ["d"], "d": []}, [])

    def test_a_ring_of_one_name(self):
        self.check({"a": ["a"]}, [["a"]])
        self.check({"a": ["a"], "b": ["a"], "c": []}, [["a"]])

    def test_a_ring_of_several_names(self):
        self.check({"b": ["a"], "a": ["b"]}, [["a", "b"]])
        self.check({"c": ["a"], "a": ["b"], "b": ["c"]}, [["a", "b", "c"]])

    def test_rings_that_share_a_name_are_one(self):
        self.check({"a": ["b"], "b": ["a", "c"], "c": ["b"]}, [["a", "b", "c"]])

    def test_rings_beside_one_another(self):
        self.check({"d": ["a"], "a": ["d"], "c": ["b"], "b": ["c"], "e": ["e"]}, [["a", "d"], ["b", "c"], ["e"]])

    def test_rings_come_in_the_order_of_their_first_names(self):
        self.check({"e": ["e"], "d": ["b"], "b": ["d"], "a": ["a"]}, [["a"], ["b", "d"], ["e"]])

    def test_rings_one_of_which_leads_to_the_other(self):
        self.check({"a": ["d"], "d": ["a", "x"], "x": ["b"], "b": ["c"], "c": ["b"]}, [["a", "d"], ["b", "c"]])

    def test_names_outside_of_the_graph(self):
        self.check({"a": ["b", "x"], "b": ["a"]}, [["a", "b"]])


if __name__ == "__main__":
    unittest.main()
