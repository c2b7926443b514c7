import random

from helpers import Case

from pressalike.components import Components


def reached(graph, start):
    seen, todo = set(), list(graph[start])
    while todo:
        at = todo.pop()
        if at not in seen:
            seen.add(at)
            todo += graph[at]
    return seen


class TestComponents(Case):
    def components(self, graph, starts, stop=None):
        found = []

        def add(members):
            found.append(members)
            return stop is not None and stop in members

        walk = Components(lambda item: graph[item], add)
        for start in starts:
            walk.walk(start)
        return found

    def test_random_ones(self):
        chance = random.Random(431)
        for _ in range(400):
            many = chance.randrange(1, 9)
            graph = {at: [chance.randrange(many) for _ in range(chance.randrange(4))] for at in range(many)}
            found = self.components(graph, range(many))
            self.assertEqual(sorted(item for members in found for item in members), list(range(many)))
            reach = {at: reached(graph, at) for at in graph}
            for at, members in enumerate(found):
                behind = {item for others in found[:at + 1] for item in others}
                for item in members:
                    alike = {other for other in graph if other == item or (other in reach[item] and item in reach[other])}
                    self.assertEqual(set(members), alike)
                    self.assertLessEqual(set(graph[item]), behind)

    def test_only_what_the_start_leads_to(self):
        graph = {0: [1], 1: [2, 1], 2: [], 3: [0]}
        self.assertEqual(self.components(graph, [0]), [[2], [1], [0]])
        self.assertEqual(self.components(graph, [1, 3, 0]), [[2], [1], [0], [3]])

    def test_stopped(self):
        graph = {at: [at + 1] for at in range(9)}
        graph[9] = []
        self.assertEqual(self.components(graph, [5, 0], 7), [[9], [8], [7]])

    def test_long_ways(self):
        graph = {at: [at + 1] for at in range(5000)}
        graph[5000] = [3]
        found = self.components(graph, [0])
        self.assertEqual([len(members) for members in found], [4998, 1, 1, 1])
