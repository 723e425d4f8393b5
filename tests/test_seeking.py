import itertools
import random
import time
import unittest

from tests.helping import (EMPTY, NO_WEBS, PATH, SCATTERED, TRIANGLE, alike, between_one_another, chance_web, circled,
                           cost, five_by_five, least_cost, line_of, lists_in, many_tuples, touches)
from touchall.errors import NoWeb
from touchall.halves import halves_cost, halves_of
from touchall.parts import beside
from touchall.rings import odd_ring_from, ties_of_ring
from touchall.seeking import least_of
from touchall.sets import is_set
from touchall.trees import claim_of
from touchall.webs import nears_in

FEW = (1, 2, 3, 5, 8, 13, 400, 1000)


def ring_ties(many):
    return sorted([(k, k + 1) for k in range(many - 1)] + [(0, many - 1)])


def priced(rng, kind, many):
    pick = {"alike": lambda: 1, "few": lambda: rng.randint(1, 3), "close": lambda: 1000 + rng.randint(0, 30),
            "unlike": lambda: rng.randint(1, 10 ** 9)}[kind]
    return [(k, pick()) for k in range(many)]


def shapes(rng, many):
    pairs = list(itertools.combinations(range(many), 2))
    yield [pair for pair in pairs][:120]
    yield ring_ties(many) if many > 2 else []
    yield circled(many, (1, 2))
    yield circled(many, (1, 3))
    yield circled(many, (1, many // 2))
    yield circled(many, (1, 2, 4))
    yield [pair for pair in pairs if (pair[0] + pair[1]) % 2][:120]
    for density in (0.2, 0.35, 0.5, 0.7, 0.9):
        yield [pair for pair in pairs if rng.random() < density][:120]


class SeekingCase(unittest.TestCase):
    def check(self, web, most):
        told = least_of(web, most)
        self.assertIsInstance(told, tuple)
        some = told[1]
        self.assertTrue(is_set(web, some) and touches(web, some))
        if told[0] == "least":
            self.assertEqual(len(told), 3)
            self.assertTrue(alike(claim_of(web, told[2]), cost(web, some)))
        else:
            self.assertEqual((told[0], len(told)), ("open", 4))
            self.assertTrue(alike(claim_of(web, told[3]), told[2]))
            self.assertLess(told[2], cost(web, some))
            self.assertGreaterEqual(2 * told[2], halves_cost(web, halves_of(web)[0]))
        self.assertLessEqual(many_tuples(told[-1]), most)
        return told

    def least(self, web, most):
        told = self.check(web, most)
        self.assertEqual(told[0], "least", (web, most))
        return cost(web, told[1])


class TestLeast(SeekingCase):
    def test_small_ones(self):
        self.assertTrue(alike(least_of(EMPTY, 1), ("least", [], ("bound", []))))
        self.assertTrue(alike(least_of(([(4, 3)], []), 1), ("least", [], ("bound", []))))
        self.assertEqual(self.least(PATH, 1), 3)
        self.assertEqual(self.least(TRIANGLE, 400), 7)
        self.assertEqual(self.least(SCATTERED, 400), 5)

    def test_the_web_without_places(self):
        for most in FEW:
            self.assertEqual(self.least(EMPTY, most), 0)

    def test_webs_without_ties(self):
        for many in (1, 2, 40):
            for most in FEW:
                self.assertEqual(self.least(([(k, 5) for k in range(many)], []), most), 0)

    def test_against_all_sets(self):
        rng = random.Random(101)
        shut = 0
        for _ in range(250):
            web = chance_web(rng, many=rng.randrange(0, 9), most_price=rng.choice([1, 2, 4, 9, 10 ** 10]))
            for most in FEW:
                told = self.check(web, most)
                if told[0] == "least":
                    self.assertEqual(cost(web, told[1]), least_cost(web))
                else:
                    self.assertLess(most, 400)
                    self.assertLess(told[2], least_cost(web) + 1)
                    shut += 1
        self.assertGreater(shut, 3)

    def test_never_open_up_to_ten_places(self):
        rng = random.Random(102)
        for many in range(1, 11):
            for kind in ("alike", "few", "close", "unlike"):
                for ties in shapes(rng, many):
                    web = (priced(rng, kind, many), ties)
                    found = self.least(web, 400)
                    if many < 8:
                        self.assertEqual(found, least_cost(web))
                    self.assertLess(many_tuples(least_of(web, 1000)[2]), 50)

    def test_never_open_in_parts_of_up_to_ten_places(self):
        rng = random.Random(103)
        for kind in ("alike", "few", "close", "unlike"):
            for sizes in ((10, 10, 10, 10), (10, 9, 8, 7, 6), (8,) * 5, (5,) * 8, (4,) * 10, (3,) * 13, (10, 10, 10)):
                for _ in range(3):
                    web = EMPTY
                    for at, size in enumerate(sizes):
                        pairs = list(itertools.combinations(range(size), 2))
                        most_ties = 120 // len(sizes)
                        pairs = sorted(rng.sample(pairs, min(most_ties, len(pairs))))
                        part = ([(100 * at + k if at < 10 else 50 + 100 * (at - 10) + k, price)
                                 for k, price in priced(rng, kind, size)], [])
                        first = part[0][0][0]
                        web = beside(web, (part[0], [(first + one, first + other) for one, other in pairs]))
                    self.least(web, 1000)

    def test_parts_add_up(self):
        rng = random.Random(104)
        for _ in range(40):
            one = chance_web(rng, many=rng.randrange(1, 8), density=0.6)
            other = chance_web(rng, many=rng.randrange(1, 8), density=0.6)
            if {place for place, _ in one[0]} & {place for place, _ in other[0]}:
                continue
            self.assertEqual(self.least(beside(one, other), 400), least_cost(one) + least_cost(other))

    def test_more_tuples_than_a_tree_may_have(self):
        for web in (EMPTY, PATH, TRIANGLE):
            self.assertEqual(least_of(web, 1001)[0], "least")

    def test_no_web(self):
        for thing in NO_WEBS:
            for most in (1, 400):
                with self.assertRaises(NoWeb):
                    least_of(thing, most)


class TestGreatWebs(SeekingCase):
    def test_forty_places_in_a_few_seconds(self):
        rng = random.Random(105)
        for kind in ("alike", "few", "close", "unlike"):
            for ties in list(shapes(rng, 40)) + [circled(40, (1, 5, 9)), circled(40, (2, 3, 7)), circled(40, (1, 6))]:
                ties = ties if len(ties) <= 120 else sorted(rng.sample(ties, 120))
                web = (priced(rng, kind, 40), ties)
                begun = time.monotonic()
                self.check(web, 1000)
                self.assertLess(time.monotonic() - begun, 10)

    def test_few_tuples(self):
        rng = random.Random(106)
        met = set()
        for kind in ("alike", "few", "close", "unlike"):
            for _ in range(2):
                pairs = list(itertools.combinations(range(40), 2))
                web = (priced(rng, kind, 40), sorted(rng.sample(pairs, rng.choice([60, 90, 120]))))
                for most in FEW[:-2] + (30, 100):
                    met.add((most, self.check(web, most)[0]))
        self.assertIn((1, "open"), met)
        self.assertIn((100, "least"), met)

    def test_many_parts_and_few_tuples(self):
        # Thirteen odd rings, each with a tie across no rule takes: more parts than tuples are let.
        web = ([(k, 1) for k in range(39)], sorted((3 * k + a, 3 * k + b) for k in range(13)
                                                   for a, b in ((0, 1), (0, 2), (1, 2))))
        for most in FEW:
            self.check(web, most)
        self.assertEqual(self.least(web, 1000), 26)

    def test_parts_whose_places_are_between_one_another(self):
        for many, size, jumps, least in ((2, 10, (1, 2, 3), 8), (4, 10, (1, 2, 3), 8), (4, 10, (1, 2), 7),
                                         (3, 8, (1, 2), 6), (5, 8, (1, 4), 5), (5, 7, (1, 3), 5)):
            self.assertEqual(self.least(between_one_another(many, size, jumps), 1000), many * least)

    def test_strings_and_rings(self):
        self.assertEqual(self.least(line_of(40), 1), 20)
        self.assertEqual(self.least(line_of(39, 7), 1), 7 * 19)
        for many in (38, 39, 40):
            for most in (1, 1000):
                self.assertEqual(self.least(([(k, 1) for k in range(many)], ring_ties(many)), most), (many + 1) // 2)

    def test_a_web_that_no_rule_takes(self):
        web = five_by_five(1)
        self.assertEqual(self.least(web, 400), 6)
        self.assertEqual(least_cost(web), 6)
        for most in FEW:
            self.check(web, most)

    def test_each_number_of_tuples(self):
        rng = random.Random(109)
        webs = [five_by_five(1), five_by_five(2), five_by_five(3), five_by_five(4)]
        webs += [(priced(rng, kind, 10 * many), five_by_five(many)[1])
                 for kind in ("few", "close") for many in (1, 2, 4)]
        webs += [(priced(rng, kind, 20), circled(20, jumps)) for kind in ("alike", "close")
                 for jumps in ((1, 2), (1, 4, 6), (2, 3))]
        webs += [between_one_another(2, 8, (1, 4)), between_one_another(3, 7, (1, 2)),
                 between_one_another(4, 8, (1, 2))]
        for web in webs:
            for most in range(1, 45):
                self.check(web, most)
            self.least(web, 1000)


class TestOwn(SeekingCase):
    def test_told_lists_are_the_asker_s_own(self):
        rng = random.Random(107)
        for _ in range(30):
            web = chance_web(rng, many=rng.randrange(0, 10), density=0.5)
            for most in (1, 3, 400):
                told = least_of(web, most)
                found = [id(one) for one in lists_in(told)]
                self.assertEqual(len(found), len(set(found)))
                self.assertFalse(set(found) & {id(one) for one in lists_in(web)})
                for one in lists_in(told):
                    one.clear()
                self.check(web, most)


class TestRings(unittest.TestCase):
    def test_rings(self):
        self.assertEqual(sorted(odd_ring_from({0: [1, 2], 1: [0, 2], 2: [0, 1]}, 0)), [0, 1, 2])
        self.assertIsNone(odd_ring_from({0: [1], 1: [0]}, 0))
        self.assertIsNone(odd_ring_from({0: []}, 0))
        self.assertEqual(ties_of_ring([4, 2, 9]), [(2, 4), (2, 9), (4, 9)])

    def test_by_chance(self):
        rng = random.Random(108)
        met = {}
        for _ in range(300):
            web = chance_web(rng, many=rng.randrange(1, 9), density=0.3)
            nears = nears_in(web)
            for place in nears:
                ring = odd_ring_from(nears, place)
                met[ring is None] = True
                if ring is None:
                    self.assertTrue(two_sides(nears, place))
                else:
                    self.assertTrue(len(ring) % 2 == 1 and len(ring) >= 3 and len(set(ring)) == len(ring))
                    self.assertTrue(all(tie in web[1] for tie in ties_of_ring(ring)))
        self.assertEqual(len(met), 2)


def two_sides(nears, place):
    side = {place: 0}
    todo = [place]
    while todo:
        here = todo.pop()
        for there in nears[here]:
            if there in side and side[there] == side[here]:
                return False
            if there not in side:
                side[there] = 1 - side[here]
                todo.append(there)
    return True


if __name__ == "__main__":
    unittest.main()
