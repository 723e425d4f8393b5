import itertools
import random
import unittest

from touchall.flows import Net


def cut_room(arcs, side):
    return sum(room for tail, head, room in arcs if tail in side and head not in side)


def cuts(many, arcs, source, sink):
    others = [knot for knot in range(many) if knot not in (source, sink)]
    for size in range(len(others) + 1):
        for some in itertools.combinations(others, size):
            side = {source} | set(some)
            yield cut_room(arcs, side), side


def chance_net(rng):
    many = rng.randrange(2, 7)
    arcs = [(rng.randrange(many), rng.randrange(many), rng.choice([0, 1, 2, 5, 10 ** 12]))
            for _ in range(rng.randrange(0, 14))]
    return many, [arc for arc in arcs if arc[0] != arc[1]]


class CountedNet(Net):
    pushes = 0

    def push(self, trail):
        self.pushes += 1
        return Net.push(self, trail)


class TestFlows(unittest.TestCase):
    def test_no_arcs(self):
        net = Net(2, [])
        self.assertEqual((net.fill(0, 1), net.flows(), net.reached_from(0), net.reaching(1)), (0, [], [0], [1]))

    def test_a_single_way(self):
        net = Net(3, [(0, 1, 7), (1, 2, 4)])
        self.assertEqual(net.fill(0, 2), 4)
        self.assertEqual(net.flows(), [4, 4])
        self.assertEqual((net.reached_from(0), net.reaching(2)), ([0, 1], [2]))

    def test_what_flows_is_given_back(self):
        net = Net(4, [(0, 1, 1), (0, 2, 1), (1, 2, 1), (1, 3, 1), (2, 3, 1)])
        self.assertEqual(net.fill(0, 3), 2)
        self.assertEqual(net.flows(), [1, 1, 0, 1, 1])

    def test_great_rooms_take_few_trails(self):
        great = 10 ** 12
        net = CountedNet(4, [(0, 1, great), (0, 2, great), (1, 2, 1), (1, 3, great), (2, 3, great)])
        self.assertEqual(net.fill(0, 3), 2 * great)
        self.assertEqual(net.pushes, 2)

    def test_by_chance(self):
        rng = random.Random(5)
        for _ in range(400):
            many, arcs = chance_net(rng)
            net = Net(many, arcs)
            flowing = net.fill(0, 1)
            rooms = list(cuts(many, arcs, 0, 1))
            least = min(room for room, _ in rooms)
            self.assertEqual(flowing, least)
            self.check_flows(many, arcs, net.flows(), flowing)
            sides = [side for room, side in rooms if room == least]
            self.assertEqual(set(net.reached_from(0)), set.intersection(*sides))
            self.assertEqual(set(range(many)) - set(net.reaching(1)), set.union(*sides))

    def check_flows(self, many, arcs, flows, flowing):
        over = [0] * many
        for (tail, head, room), amount in zip(arcs, flows, strict=True):
            self.assertTrue(0 <= amount <= room)
            over[tail] -= amount
            over[head] += amount
        self.assertEqual(over, [-flowing, flowing] + [0] * (many - 2))


if __name__ == "__main__":
    unittest.main()
