import random
import unittest

from tests.helping import (EMPTY, NO_WEBS, PATH, SCATTERED, TRIANGLE, alike, beside_each_other, chance_web, cost,
                           grove, is_number, is_ring_of, least_sets, line_of, mixed_up, refusal, ring_of, touches)
from touchall.errors import NotTwo, NoWeb
from touchall.halves import halves_cost, halves_of
from touchall.pairing import pairing_of
from touchall.sets import is_set
from touchall.sides import sides_of


def two_sided(rng, left, right, most_price, density):
    """A web by chance whose ties all go from one side to the other, its numbers in any order."""
    places = [(k, rng.randint(1, most_price)) for k in range(left + right)]
    ties = [(a, b) for a in range(left) for b in range(left, left + right) if rng.random() < density]
    return mixed_up(rng, (places, ties if len(ties) <= 120 else sorted(rng.sample(ties, 120))))


class PairingCase(unittest.TestCase):
    def check(self, web):
        told = pairing_of(web)
        self.assertTrue(isinstance(told, tuple) and len(told) == 3)
        most, fewest, dues = told
        for some in (most, fewest):
            self.assertTrue(is_set(web, some) and touches(web, some), told)
        self.dues(web, dues)
        paid = sum(due[2] for due in dues)
        self.assertEqual((paid, paid), (2 * cost(web, most), 2 * cost(web, fewest)))
        return told

    def dues(self, web, dues):
        self.assertIsInstance(dues, list)
        for due in dues:
            self.assertTrue(isinstance(due, tuple) and len(due) == 3 and all(is_number(part) for part in due))
            self.assertTrue(due[2] >= 2 and due[2] % 2 == 0, due)
            self.assertIn(due[:2], web[1])
        ties = [due[:2] for due in dues]
        self.assertEqual(ties, sorted(set(ties)))
        for place, price in web[0]:
            self.assertLessEqual(sum(due[2] for due in dues if place in due[:2]), 2 * price)

    def between(self, web, told, found):
        first = set(sides_of(web)[1])
        most, fewest = set(told[0]), set(told[1])
        other = {place for place, _ in web[0]} - first
        for some in map(set, found):
            self.assertTrue(fewest & first <= some & first <= most & first)
            self.assertTrue(most & other <= some & other <= fewest & other)

    def against_all(self, web):
        told = self.check(web)
        found = least_sets(web)
        self.assertIn(told[0], found)
        self.assertIn(told[1], found)
        self.between(web, told, found)
        for place, _ in web[0]:
            many = sum(place in some for some in found)
            self.assertEqual(many == len(found), place in told[0] and place in told[1])
            self.assertEqual(many == 0, place not in told[0] and place not in told[1])
        return len(found)


class TestPairing(PairingCase):
    def test_small_ones(self):
        self.assertTrue(alike(self.check(PATH)[:2], ([3, 9], [3, 9])))
        self.assertTrue(alike(pairing_of(EMPTY), ([], [], [])))
        self.assertTrue(alike(pairing_of(([(7, 3), (8, 1)], [])), ([], [], [])))
        self.assertTrue(alike(pairing_of(([(2, 3), (5, 3)], [(2, 5)])), ([2], [5], [(2, 5, 6)])))
        self.assertTrue(alike(pairing_of(([(2, 4), (5, 3)], [(2, 5)])), ([5], [5], [(2, 5, 6)])))
        self.assertTrue(alike(pairing_of(([(2, 3), (5, 4)], [(2, 5)])), ([2], [2], [(2, 5, 6)])))

    def test_against_all_sets(self):
        rng = random.Random(211)
        several = 0
        for _ in range(400):
            web = two_sided(rng, rng.randrange(0, 5), rng.randrange(0, 5), rng.choice([1, 2, 3, 9]),
                            rng.choice([0.2, 0.4, 0.7, 1]))
            several += self.against_all(web) > 1
        self.assertGreater(several, 50)

    def test_several_parts_against_all_sets(self):
        rng = random.Random(212)
        for _ in range(60):
            webs = [two_sided(rng, rng.randrange(0, 3), rng.randrange(1, 3), 2, 0.8) for _ in range(2)]
            self.against_all(mixed_up(rng, beside_each_other(webs + [ring_of(4), ([(0, 1)], [])])))

    def test_great_prices_against_all_sets(self):
        rng = random.Random(213)
        for _ in range(80):
            web = two_sided(rng, 4, 4, 10 ** 12 // 8, 0.5)
            self.against_all(web)

    def test_a_price_just_what_all_near_it_cost_one_less_and_one_more(self):
        for near in ([1, 1], [5, 7, 2], [10 ** 11, 10 ** 11 + 1, 2 * 10 ** 11 - 1], [499999999999]):
            for more in (-1, 0, 1):
                for turned in (False, True):
                    hub = sum(near) + more
                    places = [(k + 1, price) for k, price in enumerate(near)]
                    if turned:
                        web = (places + [(9, hub)], [(k, 9) for k, _ in places])
                    else:
                        web = ([(0, hub)] + places, [(0, k) for k, _ in places])
                    self.assertEqual(self.against_all(web), 2 if more == 0 else 1)

    def test_one_price_may_be_nearly_all(self):
        web = ([(0, 10 ** 12 - 2), (1, 1), (2, 1)], [(0, 1), (0, 2)])
        self.assertTrue(alike(self.check(web)[:2], ([1, 2], [1, 2])))
        web = ([(0, 1), (1, 10 ** 12 - 2), (2, 1)], [(0, 1), (1, 2)])
        self.assertTrue(alike(self.check(web)[:2], ([0, 2], [0, 2])))

    def test_strings_of_forty_places(self):
        told = self.check(line_of(40))
        self.assertTrue(alike(told[:2], (list(range(0, 40, 2)), list(range(1, 40, 2)))))
        told = self.check(line_of(39))
        self.assertTrue(alike(told[:2], (list(range(1, 39, 2)), list(range(1, 39, 2)))))
        self.assertEqual(len(self.check(ring_of(40))[0]), 20)
        rng = random.Random(214)
        for _ in range(20):
            self.check(mixed_up(rng, line_of(40, 25 * 10 ** 9)))
            web = line_of(40)
            prices = [(k, rng.randint(1, 25 * 10 ** 9)) for k in range(40)]
            told = self.check((prices, web[1]))
            self.assertEqual(2 * cost((prices, web[1]), told[0]),
                             halves_cost((prices, web[1]), halves_of((prices, web[1]))[0]))

    def test_forty_places_with_many_ties(self):
        rng = random.Random(215)
        for most_price in (1, 3, 10 ** 9, 25 * 10 ** 9):
            for density in (0.1, 0.3, 0.9):
                self.check(two_sided(rng, 20, 20, most_price, density))
                self.check(two_sided(rng, 3, 37, most_price, density))
                self.check(mixed_up(rng, grove(rng, 40, most_price, roots=rng.randint(1, 9))))

    def test_without_ties(self):
        for many in (1, 2, 40):
            self.assertTrue(alike(pairing_of(([(k, 5) for k in range(many)], [])), ([], [], [])))

    def test_places_without_ties_are_in_neither(self):
        self.assertTrue(alike(self.check(SCATTERED)[:2], ([0, 2, 5], [0, 2, 5])))


class TestNotTwo(unittest.TestCase):
    def refused(self, web):
        kind, fields = refusal(pairing_of, web)
        self.assertEqual((kind, list(fields)), (NotTwo, ["ring"]))
        self.assertTrue(is_ring_of(web, fields["ring"]) and len(fields["ring"]) % 2)

    def test_odd_rings(self):
        rng = random.Random(216)
        self.refused(TRIANGLE)
        for many in range(3, 40, 2):
            self.refused(mixed_up(rng, ring_of(many)))
            self.refused(mixed_up(rng, beside_each_other([line_of(39 - many), ring_of(many), ([(0, 3)], [])])))

    def test_by_chance(self):
        rng = random.Random(217)
        refused = 0
        for _ in range(300):
            web = chance_web(rng, density=rng.choice([0.2, 0.4]))
            if sides_of(web)[0] == "ring":
                self.refused(web)
                refused += 1
            else:
                self.assertIsNone(refusal(pairing_of, web))
        self.assertGreater(refused, 50)

    def test_the_ring_is_the_askers_own(self):
        for _ in range(2):
            try:
                pairing_of(TRIANGLE)
            except NotTwo as error:
                self.assertTrue(is_ring_of(TRIANGLE, error.ring))
                error.ring.clear()
                self.assertFalse(any(part == [] for part in error.args))

    def test_no_web_goes_ahead(self):
        for thing in NO_WEBS:
            self.assertEqual(refusal(pairing_of, thing)[0], NoWeb)


if __name__ == "__main__":
    unittest.main()
