import itertools
import random
import time
import unittest

from tests.helping import (EMPTY, NO_WEBS, PATH, SCATTERED, TRIANGLE, alike, beside_each_other, chance_web, cost,
                           grove, is_ring_of, least_sets, line_of, mixed_up, refusal, ring_of, touches)
from touchall.errors import NotForest, NoWeb
from touchall.forests import forest_least
from touchall.pairing import pairing_of
from touchall.parts import parts
from touchall.sets import is_set


def read_off(web):
    found = sorted(least_sets(web))
    return (cost(web, found[0]), len(found), found[0])


def wide(many, leaves):
    """So many hubs in a row, each with so many leaves."""
    ties = [(k * (leaves + 1), (k + 1) * (leaves + 1)) for k in range(many - 1)]
    ties += [(k * (leaves + 1), k * (leaves + 1) + at) for k in range(many) for at in range(1, leaves + 1)]
    return ([(k, 1) for k in range(many * (leaves + 1))], sorted(ties))


class ForestCase(unittest.TestCase):
    def check(self, web):
        told = forest_least(web)
        self.assertTrue(alike(told, read_off(web)), (web, told))
        return told[1]

    def check_great(self, web):
        """What can be seen of a told tuple without going through all sets: the first set is a cheapest one."""
        least, many, first = forest_least(web)
        self.assertTrue(is_set(web, first) and touches(web, first))
        told = pairing_of(web)
        self.assertEqual((least, least), (cost(web, first), cost(web, told[0])))
        self.assertEqual(many == 1, told[0] == told[1])
        return (least, many, first)


class TestForests(ForestCase):
    def test_small_ones(self):
        self.assertTrue(alike(forest_least(EMPTY), (0, 1, [])))
        self.assertTrue(alike(forest_least(([(5, 3)], [])), (0, 1, [])))
        self.assertTrue(alike(forest_least(([(5, 3), (6, 3)], [(5, 6)])), (3, 2, [5])))
        self.assertTrue(alike(forest_least(([(5, 4), (6, 3)], [(5, 6)])), (3, 1, [6])))
        self.assertTrue(alike(forest_least(PATH), (3, 1, [3, 9])))
        self.assertTrue(alike(forest_least(SCATTERED), (5, 1, [0, 2, 5])))

    def test_against_all_sets(self):
        rng = random.Random(221)
        several = 0
        for _ in range(500):
            many = rng.randint(1, 9)
            web = grove(rng, many, rng.choice([1, 1, 2, 3, 9, 10 ** 11]), roots=rng.choice([1, 1, 2, many]))
            several += self.check(mixed_up(rng, web)) > 1
        self.assertGreater(several, 100)

    def test_the_first_as_lists_are_ordered(self):
        # A set of more places may come ahead of one of fewer, and the least place go ahead of all others.
        self.assertTrue(alike(forest_least(([(0, 1), (1, 2), (2, 1)], [(0, 1), (1, 2)])), (2, 2, [0, 2])))
        self.assertTrue(alike(forest_least(([(0, 2), (1, 1), (2, 1)], [(0, 1), (0, 2)])), (2, 2, [0])))
        web = ([(0, 2), (1, 2), (2, 2), (3, 2)], [(0, 2), (1, 3)])
        self.assertTrue(alike(forest_least(web), (4, 4, [0, 1])))

    def test_all_trees_of_five_places(self):
        pairs = list(itertools.combinations(range(5), 2))
        checked = 0
        for ties in itertools.combinations(pairs, 4):
            web = ([(k, 1) for k in range(5)], list(ties))
            if len(parts(web)) == 1:
                self.check(web)
                checked += 1
        self.assertEqual(checked, 125)

    def test_strings_of_forty_places(self):
        # Of an even string of alike prices each pair gives one, and the choices never go back: n / 2 + 1 of them.
        self.assertTrue(alike(forest_least(line_of(40)), (20, 21, list(range(0, 39, 2)))))
        self.assertTrue(alike(forest_least(line_of(39)), (19, 1, list(range(1, 39, 2)))))
        self.assertTrue(alike(forest_least(line_of(40, 25 * 10 ** 9))[:2], (20 * 25 * 10 ** 9, 21)))

    def test_very_many_cheapest_sets(self):
        pairs = ([(k, 7) for k in range(40)], [(k, k + 1) for k in range(0, 40, 2)])
        self.assertTrue(alike(forest_least(pairs), (140, 2 ** 20, list(range(0, 40, 2)))))
        far = ([(k, 7) for k in range(40)], [(k, k + 20) for k in range(20)])
        self.assertTrue(alike(forest_least(far), (140, 2 ** 20, list(range(20)))))
        fours = beside_each_other([line_of(4)] * 10)
        self.assertTrue(alike(forest_least(fours)[:2], (20, 3 ** 10)))

    def test_wide_ones(self):
        self.assertTrue(alike(forest_least(wide(1, 39)), (1, 1, [0])))
        self.assertTrue(alike(forest_least(wide(20, 1))[:2], (20, 2 ** 20 - self.tied_outs(20))))
        self.assertTrue(alike(forest_least(wide(10, 3)), (10, 1, list(range(0, 40, 4)))))
        star = ([(0, 39)] + [(k, 1) for k in range(1, 40)], [(0, k) for k in range(1, 40)])
        self.assertTrue(alike(forest_least(star), (39, 2, [0])))

    def tied_outs(self, many):
        """Of a row of so many hubs, in how many choices two hubs next to each other are out."""
        apart = [1, 2]
        while len(apart) <= many:
            apart.append(apart[-1] + apart[-2])
        return 2 ** many - apart[many]

    def test_groves_of_forty_places(self):
        rng = random.Random(222)
        ahead = time.perf_counter()
        for most_price in (1, 2, 9, 25 * 10 ** 9):
            for roots in (1, 3, 20, 39, 40):
                for reach in (None, 1, 3):
                    web = grove(rng, 40, most_price, roots, reach)
                    self.check_great(web)
                    self.check_great(mixed_up(rng, web))
        self.assertLess(time.perf_counter() - ahead, 20)

    def test_parts_give_what_they_give_alone(self):
        rng = random.Random(223)
        for _ in range(30):
            webs = [grove(rng, rng.randint(1, 8), rng.choice([1, 2])) for _ in range(5)]
            least, many = 0, 1
            for web in webs:
                told = read_off(web)
                least, many = least + told[0], many * told[1]
            self.assertTrue(alike(forest_least(mixed_up(rng, beside_each_other(webs)))[:2], (least, many)))


class TestNotForest(unittest.TestCase):
    def refused(self, web):
        kind, fields = refusal(forest_least, web)
        self.assertEqual((kind, list(fields)), (NotForest, ["ring"]))
        self.assertTrue(is_ring_of(web, fields["ring"]), fields)

    def test_rings_alone(self):
        rng = random.Random(224)
        self.refused(TRIANGLE)
        for many in range(3, 41):
            self.refused(ring_of(many))
            self.refused(mixed_up(rng, ring_of(many)))

    def test_a_ring_in_one_part_only(self):
        rng = random.Random(225)
        for many in (3, 4, 5, 12, 29):
            for _ in range(10):
                webs = [line_of(5), grove(rng, 5), ring_of(many), ([(0, 1)], [])]
                rng.shuffle(webs)
                self.refused(mixed_up(rng, beside_each_other(webs)))

    # As few ties as places may have a ring, where another part has fewer.
    def test_fewer_ties_than_places_and_yet_a_ring(self):
        self.refused(([(k, 1) for k in range(9)], [(1, 2), (1, 8), (2, 8), (3, 4)]))

    def test_a_grove_with_one_tie_more(self):
        rng = random.Random(226)
        for _ in range(60):
            many = rng.randint(3, 40)
            web = grove(rng, many)
            pairs = [pair for pair in itertools.combinations(range(many), 2) if pair not in web[1]]
            self.refused(mixed_up(rng, (web[0], sorted(web[1] + [rng.choice(pairs)]))))

    def test_by_chance(self):
        rng = random.Random(227)
        met = [0, 0]
        for _ in range(300):
            web = chance_web(rng, density=rng.choice([0.1, 0.3, 0.5]))
            has_ring = any(len(part[1]) >= len(part[0]) for part in parts(web))
            met[has_ring] += 1
            if has_ring:
                self.refused(web)
            else:
                self.assertIsNone(refusal(forest_least, web))
        self.assertGreater(min(met), 30)

    def test_the_ring_is_the_askers_own(self):
        for _ in range(2):
            try:
                forest_least(TRIANGLE)
            except NotForest as error:
                self.assertTrue(is_ring_of(TRIANGLE, error.ring))
                error.ring.clear()
                self.assertFalse(any(part == [] for part in error.args))

    def test_no_web_goes_ahead(self):
        for thing in NO_WEBS:
            self.assertEqual(refusal(forest_least, thing)[0], NoWeb)


if __name__ == "__main__":
    unittest.main()
