import random
import time
import unittest

from tests.helping import (EMPTY, NO_WEBS, PATH, SCATTERED, TRIANGLE, alike, beside_each_other, chance_web, cost,
                           full_ties, least_sets, line_of, lists_in, refusal, ring_of, touches)
from touchall.errors import NoWeb, TooMany, TooWide
from touchall.listing import all_least
from touchall.sets import is_set
from touchall.strings import string_least

PAIRS = ([(k, 7) for k in range(40)], [(k, k + 1) for k in range(0, 40, 2)])
WIDE = ([(k, 1) for k in range(14)], [(k, k + 7) for k in range(7)])


def pairs_of(many):
    """So many pairs of tied places, with two to the so many cheapest sets."""
    return ([(k, 3) for k in range(2 * many)], [(2 * k, 2 * k + 1) for k in range(many)])


# Seven pairs have 128 cheapest sets. A pair more, one end tied to an end of the first, has 64 with its other end; one
# more, tied to that and to three ends besides, has 8; and one more so, tied to all that is left, has 1.
def two_hundred():
    ties = [(0, 1), (2, 3), (0, 6), (1, 2), (2, 8), (2, 10), (2, 12)] + [(k, k + 1) for k in range(6, 20, 2)]
    return ([(k, 1) for k in range(20) if k not in (4, 5)], sorted(ties))


def one_more():
    web = two_hundred()
    return (sorted(web[0] + [(4, 1), (5, 1)]), sorted(web[1] + [(4, 5), (3, 4), (4, 14), (4, 16), (4, 18)]))


class TestListing(unittest.TestCase):
    def test_small_ones(self):
        self.assertTrue(alike(all_least(EMPTY, 1), [[]]))
        self.assertTrue(alike(all_least(([(5, 3), (6, 1)], []), 1), [[]]))
        self.assertTrue(alike(all_least(PATH, 1), [[3, 9]]))
        self.assertTrue(alike(all_least(TRIANGLE, 1), [[0, 1]]))
        self.assertTrue(alike(all_least(SCATTERED, 200), [[0, 2, 5]]))
        self.assertTrue(alike(all_least(ring_of(3), 3), [[0, 1], [0, 2], [1, 2]]))
        self.assertTrue(alike(all_least(ring_of(6), 2), [[0, 2, 4], [1, 3, 5]]))
        self.assertTrue(alike(all_least(([(0, 1), (1, 2), (2, 1)], [(0, 1), (1, 2)]), 2), [[0, 2], [1]]))
        self.assertTrue(alike(all_least(line_of(4), 5), [[0, 2], [1, 2], [1, 3]]))

    def test_against_all_sets(self):
        rng = random.Random(241)
        met = {}
        for _ in range(400):
            web = chance_web(rng, many=rng.randint(0, 8), most_price=rng.choice([1, 1, 2, 3, 9]),
                             density=rng.choice([0.1, 0.3, 0.5, 0.8]))
            found = sorted(least_sets(web))
            if refusal(string_least, web) is None:
                self.assertTrue(alike(all_least(web, 200), found), web)
                self.edges(web, found)
                met[len(found)] = True
        self.assertGreater(len(met), 5)

    def edges(self, web, found):
        """Just so many as there are, and one fewer."""
        self.assertTrue(alike(all_least(web, len(found)), found))
        if len(found) > 1:
            self.assertEqual(refusal(all_least, web, len(found) - 1)[0], TooMany)

    def test_just_so_many_and_one_more(self):
        self.assertEqual(len(all_least(line_of(39), 1)), 1)
        self.assertEqual(refusal(all_least, line_of(2), 1)[0], TooMany)
        self.assertEqual(len(all_least(line_of(2), 2)), 2)
        self.assertEqual(refusal(all_least, line_of(4), 2)[0], TooMany)
        self.assertEqual(len(all_least(line_of(40), 21)), 21)
        self.assertEqual(refusal(all_least, line_of(40), 20)[0], TooMany)
        self.assertEqual(len(all_least(pairs_of(7), 128)), 128)
        self.assertEqual(refusal(all_least, pairs_of(7), 127)[0], TooMany)
        self.assertEqual(refusal(all_least, pairs_of(8), 200)[0], TooMany)

    def test_two_hundred_and_one_more(self):
        self.assertEqual(len(all_least(two_hundred(), 200)), 200)
        self.assertEqual(refusal(all_least, two_hundred(), 199)[0], TooMany)
        self.assertEqual(string_least(one_more())[1], 201)
        self.assertEqual(refusal(all_least, one_more(), 200)[0], TooMany)

    # With 0 there are very many choices of one cost, all of which come to nothing at the last place.
    def test_few_cheapest_sets_behind_very_many_choices(self):
        odd = list(range(1, 38, 2))
        web = ([(k, 1) for k in range(39)], sorted([(0, k) for k in odd] + [(k, k + 1) for k in odd]))
        ahead = time.perf_counter()
        self.assertTrue(alike(all_least(web, 1), [odd]))
        self.assertLess(time.perf_counter() - ahead, 3)
        for given in (line_of(39), line_of(40)):
            found = all_least(given, 200)
            self.assertEqual(len(found), string_least(given)[1])
            self.listed(given, found)

    def listed(self, web, found):
        least = string_least(web)[0]
        self.assertEqual(found, sorted(found))
        self.assertEqual(len({tuple(some) for some in found}), len(found))
        for some in found:
            self.assertTrue(is_set(web, some) and touches(web, some) and cost(web, some) == least)

    def test_forty_places(self):
        rng = random.Random(242)
        for steps in ((1,), (1, 2), (1, 2, 3), (6,), (2, 5)):
            for most_price in (1, 2, 9, 25 * 10 ** 9):
                ties = sorted((k, k + step) for step in steps for k in range(40 - step))
                web = ([(k, rng.randint(1, most_price)) for k in range(40)], ties)
                many = string_least(web)[1]
                if many <= 200:
                    self.listed(web, all_least(web, 200))
                else:
                    self.assertEqual(refusal(all_least, web, 200)[0], TooMany)

    def test_very_many_are_refused_at_once(self):
        ahead = time.perf_counter()
        for web in (PAIRS, beside_each_other([ring_of(3)] * 13), beside_each_other([line_of(4)] * 10)):
            for most in (1, 2, 200):
                self.assertEqual(refusal(all_least, web, most)[0], TooMany)
        self.assertLess(time.perf_counter() - ahead, 5)

    def test_without_ties(self):
        for many in (1, 2, 40):
            for most in (1, 2, 200):
                self.assertTrue(alike(all_least(([(k, 5) for k in range(many)], []), most), [[]]))


class TestRefused(unittest.TestCase):
    def test_too_wide_goes_ahead_of_too_many(self):
        for most in (1, 2, 127, 128, 200):
            self.assertEqual(refusal(all_least, WIDE, most), (TooWide, {"place": 6}))
        six = ([(k, 1) for k in range(12)], [(k, k + 6) for k in range(6)])
        self.assertEqual(len(all_least(six, 64)), 64)
        self.assertEqual(refusal(all_least, six, 63)[0], TooMany)
        self.assertEqual(refusal(all_least, ([(k, 1) for k in range(8)], full_ties(8, 28)), 1), (TooWide, {"place": 6}))

    def test_no_web_goes_ahead(self):
        for thing in NO_WEBS:
            self.assertEqual(refusal(all_least, thing, 1)[0], NoWeb)


class TestOwn(unittest.TestCase):
    def test_told_lists_are_the_askers_own(self):
        told = all_least(two_hundred(), 200)
        self.assertEqual(len({id(one) for one in lists_in(told)}), 201)
        told[0].clear()
        self.assertEqual(all_least(two_hundred(), 200)[1:], told[1:])


if __name__ == "__main__":
    unittest.main()
