import random
import unittest

from tests.helping import (EMPTY, NO_WEBS, PATH, SCATTERED, TRIANGLE, alike, beside_each_other, chance_web, grove,
                           is_ring_of, line_of, mixed_up, refusal, ring_of)
from touchall.errors import NoWeb
from touchall.parts import parts
from touchall.rings import levels_by, met_from, odd_ring_from, ring_from
from touchall.sides import sides_of
from touchall.webs import nears_in


def has_two_sides(web):
    """A plain reading: each part's places laid on either side, from its least one on."""
    sides = {}
    for place, _ in web[0]:
        sides.setdefault(place, 0)
        while True:
            more = {b: 1 - sides[a] for one, other in web[1] for a, b in ((one, other), (other, one))
                    if a in sides and b not in sides}
            if not more:
                break
            sides.update(more)
    return all(sides[one] != sides[other] for one, other in web[1])


class SidesCase(unittest.TestCase):
    def check(self, web):
        told = sides_of(web)
        self.assertIsInstance(told, tuple)
        if told[0] == "sides":
            self.sides(web, told)
        else:
            self.assertEqual((told[0], len(told)), ("ring", 2))
            self.assertTrue(is_ring_of(web, told[1]), told)
            self.assertEqual(len(told[1]) % 2, 1)
        return told[0]

    def sides(self, web, told):
        self.assertEqual(len(told), 3)
        first, other = told[1], told[2]
        self.assertTrue(alike(sorted(first + other), [place for place, _ in web[0]]))
        self.assertEqual((first, other), (sorted(first), sorted(other)))
        for one, far in web[1]:
            self.assertNotEqual(one in first, far in first)
        for part in parts(web):
            self.assertIn(part[0][0][0], first)


class TestSides(SidesCase):
    def test_small_ones(self):
        self.assertTrue(alike(sides_of(PATH), ("sides", [1, 4], [3, 9])))
        self.assertTrue(alike(sides_of(SCATTERED), ("sides", [0, 2, 5, 7], [8, 999])))
        self.assertTrue(alike(sides_of(EMPTY), ("sides", [], [])))
        self.assertTrue(alike(sides_of(([(3, 1), (4, 1)], [])), ("sides", [3, 4], [])))
        self.assertEqual(sorted(sides_of(TRIANGLE)[1]), [0, 1, 2])

    def test_several_parts_each_with_its_least_place_on_the_first(self):
        web = ([(k, 1) for k in range(8)], [(0, 5), (1, 2), (1, 7), (3, 7), (4, 5)])
        self.assertTrue(alike(sides_of(web), ("sides", [0, 1, 3, 4, 6], [2, 5, 7])))

    def test_by_chance(self):
        rng = random.Random(201)
        met = {"sides": 0, "ring": 0}
        for _ in range(600):
            web = chance_web(rng, many=rng.randrange(0, 12), density=rng.choice([0.05, 0.1, 0.2, 0.3, 0.6]))
            kind = self.check(web)
            self.assertEqual(kind == "sides", has_two_sides(web), web)
            met[kind] += 1
        self.assertGreater(min(met.values()), 100)

    def test_strings_and_even_rings_of_forty_places(self):
        rng = random.Random(202)
        for web in (line_of(40), ring_of(40), ring_of(4), ring_of(38)):
            for _ in range(20):
                self.assertEqual(self.check(mixed_up(rng, web)), "sides")

    def test_groves_with_places_without_ties(self):
        rng = random.Random(203)
        for _ in range(60):
            many = rng.randint(1, 40)
            web = grove(rng, many, roots=rng.randint(1, many))
            self.assertEqual(self.check(mixed_up(rng, web)), "sides")


class TestOddRings(SidesCase):
    def test_rings_alone(self):
        rng = random.Random(204)
        for many in range(3, 41):
            self.assertEqual(self.check(mixed_up(rng, ring_of(many))), "ring" if many % 2 else "sides")

    def test_rings_anywhere(self):
        rng = random.Random(205)
        for _ in range(200):
            many = rng.choice([3, 5, 7, 9, 21])
            rest = [line_of(rng.randint(1, 6)), ring_of(4), grove(rng, rng.randint(1, 8)), ([(0, 1)], [])]
            rng.shuffle(rest)
            web = beside_each_other(rest + [ring_of(many)])
            self.assertEqual(self.check(mixed_up(rng, web)), "ring")

    def test_rings_that_hang_at_a_long_string(self):
        rng = random.Random(206)
        for many in (3, 5, 7, 19):
            web = beside_each_other([ring_of(many), line_of(40 - many)])
            for _ in range(10):
                tied = (web[0], sorted(web[1] + [(rng.randrange(many), rng.randrange(many, 40))]))
                self.assertEqual(self.check(mixed_up(rng, tied)), "ring")

    def test_forty_places_with_a_tie_too_many(self):
        rng = random.Random(207)
        for _ in range(60):
            web = grove(rng, 40)
            first = sides_of(web)[1]
            pair = tuple(sorted(rng.sample(first, 2))) if len(first) > 1 else None
            if pair is not None:
                self.assertEqual(self.check(mixed_up(rng, (web[0], sorted(web[1] + [pair])))), "ring")


class TestRings(unittest.TestCase):
    def test_what_hangs_together(self):
        nears = nears_in(SCATTERED)
        self.assertEqual(met_from(nears, 0), {0: None, 8: 0, 5: 8})
        self.assertEqual(levels_by(met_from(nears, 0)), {0: 0, 8: 1, 5: 2})

    def test_any_ring(self):
        rng = random.Random(208)
        for _ in range(200):
            web = chance_web(rng, many=rng.randrange(1, 9))
            nears = nears_in(web)
            for part in parts(web):
                place = rng.choice(part[0])[0]
                ring = ring_from(nears, place)
                self.assertEqual(ring is None, len(part[1]) < len(part[0]))
                self.assertTrue(ring is None or is_ring_of(part, ring))
                odd = odd_ring_from(nears, place)
                self.assertEqual(odd is None, has_two_sides(part))
                self.assertTrue(odd is None or is_ring_of(part, odd) and len(odd) % 2)


class TestWrong(unittest.TestCase):
    def test_no_web(self):
        for thing in NO_WEBS:
            self.assertEqual(refusal(sides_of, thing)[0], NoWeb)


if __name__ == "__main__":
    unittest.main()
