import math
import random
import time
import unittest

from tests.helping import (ANYTHING, EMPTY, NO_WEBS, PATH, SCATTERED, TRIANGLE, alike, beside_each_other, chance_web,
                           copied, cost, full_ties, grove, least_sets, line_of, refusal, ring_of, touches,
                           touching_sets)
from touchall.errors import NoPlace, NoWeb, TooWide
from touchall.forests import forest_least
from touchall.pairing import pairing_of
from touchall.sets import is_set
from touchall.strings import edge_behind, sets_by_size, string_least


def read_edge(web, place):
    return sorted({one for one, other in web[1] if one <= place < other})


def read_least(web):
    found = sorted(least_sets(web))
    return (cost(web, found[0]), len(found), found[0],
            [(place, sum(place in some for some in found)) for place, _ in web[0]])


def read_sizes(web):
    told = [0] * (len(web[0]) + 1)
    for some in touching_sets(web):
        told[len(some)] += 1
    return told


def apart(many, steps, price=1):
    """A string with ties so many places apart."""
    ties = sorted((k, k + step) for step in steps for k in range(many - step))
    return ([(k, price) for k in range(many)], ties)


class StringCase(unittest.TestCase):
    def check(self, web):
        told = string_least(web)
        self.assertTrue(alike(told, read_least(web)), (web, told))
        self.assertTrue(alike(sets_by_size(web), read_sizes(web)), web)
        return told[1]

    def check_great(self, web):
        """What can be seen of the told things without going through all sets."""
        least, many, first, counts = string_least(web)
        self.assertTrue(is_set(web, first) and touches(web, first) and cost(web, first) == least)
        prices = dict(web[0])
        self.assertEqual([place for place, _ in counts], list(prices))
        self.assertEqual(sum(count * prices[place] for place, count in counts), least * many)
        self.assertTrue(all(0 <= count <= many for _, count in counts))
        self.assertTrue(all(count > 0 for place, count in counts if place in first))
        sizes = sets_by_size(web)
        self.assertEqual((len(sizes), sizes[-1]), (len(web[0]) + 1, 1))
        return (least, many, first, counts)


class TestEdges(unittest.TestCase):
    def test_small_ones(self):
        self.assertTrue(alike([edge_behind(PATH, place) for place in (1, 3, 4, 9)], [[1], [3], [4], []]))
        self.assertTrue(alike([edge_behind(TRIANGLE, place) for place in (0, 1, 2)], [[0], [0, 1], []]))
        self.assertTrue(alike([edge_behind(SCATTERED, place) for place in (0, 2, 5, 7, 8, 999)],
                              [[0], [0, 2], [0, 2, 5], [0, 2, 5], [2], []]))
        self.assertTrue(alike(edge_behind(([(5, 1)], []), 5), []))

    def test_of_any_web(self):
        rng = random.Random(231)
        for _ in range(100):
            web = chance_web(rng, many=rng.choice([3, 8, 20, 40]), density=rng.choice([0.05, 0.1, 0.9]))
            for place, _ in web[0]:
                self.assertTrue(alike(edge_behind(web, place), read_edge(web, place)))

    def test_of_a_wide_web(self):
        web = ([(k, 1) for k in range(40)], [(k, k + 20) for k in range(20)])
        self.assertEqual(refusal(string_least, web), (TooWide, {"place": 6}))
        for place in range(40):
            self.assertEqual(edge_behind(web, place), [k for k in range(20) if k <= place < k + 20])

    def test_what_is_no_place(self):
        for web in (EMPTY, PATH, ([(k, 1) for k in range(40)], [(k, k + 20) for k in range(20)])):
            held = [place for place, _ in web[0]]
            for thing in ANYTHING + [2, 5, 40, 1000, -1, [9], (9,), "9"]:
                if isinstance(thing, int) and not isinstance(thing, bool) and thing in held:
                    continue
                kind, fields = refusal(edge_behind, web, thing)
                self.assertEqual((kind, list(fields)), (NoPlace, ["place"]))
                self.assertTrue(fields["place"] is thing or alike(fields["place"], thing))

    def test_no_web_goes_ahead(self):
        for thing in NO_WEBS:
            for place in (0, 1, None, True):
                self.assertEqual(refusal(edge_behind, thing, place)[0], NoWeb)


class TestTooWide(unittest.TestCase):
    def refused(self, web, place):
        for ask in (string_least, sets_by_size):
            self.assertEqual(refusal(ask, web), (TooWide, {"place": place}))

    def test_edges_of_just_six_and_of_seven(self):
        for far in (6, 7):
            web = apart(2 * far, (far,))
            self.assertEqual(max(len(edge_behind(web, place)) for place, _ in web[0]), far)
            if far == 6:
                self.assertEqual(string_least(web)[:2], (6, 2 ** 6))
                self.assertEqual(sum(sets_by_size(web)), 3 ** 6)
            else:
                self.refused(web, 6)

    def test_all_tied_to_all(self):
        seven = ([(k, 1) for k in range(7)], full_ties(7, 21))
        self.assertEqual(string_least(seven)[:2], (6, 7))
        self.assertEqual(sets_by_size(seven), [0, 0, 0, 0, 0, 0, 7, 1])
        self.refused(([(k, 1) for k in range(8)], full_ties(8, 28)), 6)

    def test_the_first_place_behind_which_it_is_so(self):
        rng = random.Random(232)
        refused = 0
        for _ in range(200):
            web = chance_web(rng, many=rng.randint(10, 40), density=rng.choice([0.05, 0.1, 0.3, 0.9]))
            wide = [place for place, _ in web[0] if len(read_edge(web, place)) > 6]
            if wide:
                self.refused(web, wide[0])
                refused += 1
            else:
                self.assertIsNone(refusal(string_least, web))
                self.assertIsNone(refusal(sets_by_size, web))
        self.assertTrue(50 < refused < 200)

    def test_far_behind_others(self):
        web = ([(10 * k, 2) for k in range(40)], [(10 * k, 10 * k + 70) for k in range(20, 30)])
        self.refused(web, 260)

    # All seven are tied to one place alone: the edge is of places ahead, not of ties.
    def test_many_ahead_of_one_and_one_ahead_of_many(self):
        self.refused(([(k, 1) for k in range(8)], [(k, 7) for k in range(7)]), 6)
        self.assertEqual(string_least(([(k, 1) for k in range(40)], [(0, k) for k in range(1, 40)]))[:3], (1, 1, [0]))

    def test_no_web_goes_ahead(self):
        for thing in NO_WEBS:
            self.assertEqual(refusal(string_least, thing)[0], NoWeb)
            self.assertEqual(refusal(sets_by_size, thing)[0], NoWeb)


class TestStrings(StringCase):
    def test_small_ones(self):
        self.assertTrue(alike(string_least(EMPTY), (0, 1, [], [])))
        self.assertTrue(alike(sets_by_size(EMPTY), [1]))
        self.assertTrue(alike(string_least(([(5, 3)], [])), (0, 1, [], [(5, 0)])))
        self.assertTrue(alike(sets_by_size(([(5, 3)], [])), [1, 1]))
        self.assertTrue(alike(string_least(PATH), (3, 1, [3, 9], [(1, 0), (3, 1), (4, 0), (9, 1)])))
        self.assertTrue(alike(sets_by_size(PATH), [0, 0, 3, 4, 1]))
        two = ([(1, 2), (2, 2)], [(1, 2)])
        self.assertTrue(alike(string_least(two), (2, 2, [1], [(1, 1), (2, 1)])))
        self.assertTrue(alike(sets_by_size(two), [0, 2, 1]))
        self.check(TRIANGLE)
        self.check(SCATTERED)

    def test_against_all_sets(self):
        rng = random.Random(233)
        several = 0
        for _ in range(400):
            web = chance_web(rng, many=rng.randint(0, 8), most_price=rng.choice([1, 1, 2, 3, 9, 10 ** 11]),
                             density=rng.choice([0.1, 0.3, 0.5, 0.8]))
            if all(len(read_edge(web, place)) <= 6 for place, _ in web[0]):
                several += self.check(web) > 1
        self.assertGreater(several, 100)

    def test_longer_ones_against_all_sets(self):
        rng = random.Random(234)
        for steps in ((1,), (1, 2), (1, 2, 3), (2,), (3,), (1, 4), (6,)):
            web = apart(12, steps)
            self.check(web)
            self.check(([(k, rng.randint(1, 3)) for k in range(12)], web[1]))

    def test_without_ties(self):
        for many in (1, 2, 40):
            web = ([(3 * k, 5) for k in range(many)], [])
            self.assertTrue(alike(string_least(web), (0, 1, [], [(3 * k, 0) for k in range(many)])))
            self.assertTrue(alike(sets_by_size(web), [math.comb(many, size) for size in range(many + 1)]))

    def test_the_first_as_lists_are_ordered(self):
        self.assertTrue(alike(string_least(([(0, 1), (1, 2), (2, 1)], [(0, 1), (1, 2)]))[:3], (2, 2, [0, 2])))
        web = ([(0, 2), (1, 2), (2, 2), (3, 2)], [(0, 2), (1, 3)])
        self.assertTrue(alike(string_least(web)[:3], (4, 4, [0, 1])))
        self.assertTrue(alike(string_least(ring_of(6))[:3], (3, 2, [0, 2, 4])))


class TestForty(StringCase):
    def test_ties_one_two_and_three_apart(self):
        ahead = time.perf_counter()
        for steps in ((1,), (1, 2), (1, 2, 3), (2,), (3,), (2, 3), (1, 3), (6,), (1, 6)):
            for price in (1, 25 * 10 ** 9):
                self.check_great(apart(40, steps, price))
        self.assertLess(time.perf_counter() - ahead, 10)

    # Of ties one, two and three apart just one of any four together may be left out.
    def test_known_counts(self):
        self.assertEqual(string_least(line_of(40))[:3], (20, 21, list(range(0, 39, 2))))
        self.assertEqual([many for _, many in string_least(line_of(40))[3]][:4], [1, 20, 2, 19])
        for step in (1, 2, 3):
            web = apart(40, tuple(range(1, step + 1)))
            self.assertEqual(sets_by_size(web), [self.left_out(40, step, 40 - size) for size in range(41)])
            least, many = string_least(web)[:2]
            self.assertEqual((least, many), (40 - -(-40 // (step + 1)), self.left_out(40, step, -(-40 // (step + 1)))))

    def left_out(self, many, step, out):
        """In how many ways so many of them may be left out, any two more than step apart."""
        free = many - step * max(out - 1, 0)
        return math.comb(free, out) if free >= out else 0

    def test_very_many_cheapest_sets(self):
        pairs = ([(k, 7) for k in range(40)], [(k, k + 1) for k in range(0, 40, 2)])
        told = self.check_great(pairs)
        self.assertEqual(told[:3], (140, 2 ** 20, list(range(0, 40, 2))))
        self.assertEqual({count for _, count in told[3]}, {2 ** 19})
        self.assertEqual(sum(sets_by_size(pairs)), 3 ** 20)
        threes = beside_each_other([ring_of(3)] * 13)
        self.assertEqual(self.check_great(threes)[:2], (26, 3 ** 13))
        self.assertEqual(sum(sets_by_size(threes)), 4 ** 13)

    def test_great_prices(self):
        rng = random.Random(235)
        for steps in ((1,), (1, 2), (1, 2, 3), (6,)):
            for _ in range(5):
                web = apart(40, steps)
                self.check_great(([(k, rng.randint(1, 25 * 10 ** 9)) for k in range(40)], web[1]))
        self.assertEqual(self.check_great(([(0, 1), (1, 10 ** 12 - 2), (2, 1)], [(0, 1), (1, 2)]))[:3], (2, 1, [0, 2]))

    def test_against_webs_without_rings_and_of_two_sides(self):
        rng = random.Random(236)
        for _ in range(40):
            web = grove(rng, 40, rng.choice([1, 2, 9]), roots=rng.randint(1, 9), reach=rng.choice([1, 3, 6]))
            told = self.check_great(web)
            self.assertTrue(alike(told[:3], forest_least(web)))
            most, fewest, _ = pairing_of(web)
            for place, count in told[3]:
                self.assertEqual(count == told[1], place in most and place in fewest)
                self.assertEqual(count == 0, place not in most and place not in fewest)

    def test_parts_give_what_they_give_alone(self):
        rng = random.Random(237)
        for _ in range(20):
            webs = [chance_web(rng, many=rng.randint(1, 7), most_price=2) for _ in range(5)]
            told = self.check_great(beside_each_other(webs))
            least, many, counts = 0, 1, []
            for web in webs:
                one = read_least(web)
                counts = [count * one[1] for count in counts] + [many * count for _, count in one[3]]
                least, many = least + one[0], many * one[1]
            self.assertEqual((told[0], told[1], [count for _, count in told[3]]), (least, many, counts))


class TestOwn(unittest.TestCase):
    def test_what_is_told_is_the_askers_own(self):
        web = apart(12, (1, 3))
        ahead = copied(web)
        first = copied(string_least(web))
        told = string_least(web)
        told[2].clear()
        told[3].clear()
        sets_by_size(web).clear()
        edge_behind(web, 4).clear()
        self.assertTrue(alike(string_least(web), first) and alike(web, ahead))


if __name__ == "__main__":
    unittest.main()
