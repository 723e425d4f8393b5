import itertools
import random
import unittest

from tests.helping import (ANYTHING, EMPTY, NO_WEBS, PATH, SCATTERED, TRIANGLE, alike, alike_in_all, all_halves,
                           chance_web, cheapest_halves, halved_cost, least_cost, least_sets, less_places, line_of,
                           paper_reads, spoilt)
from touchall.errors import NoWeb
from touchall.halves import halves_cost, halves_of, lets_halves

TIE = ([(3, 5), (7, 2)], [(3, 7)])
TIE_PAPER = ([(3, 0), (7, 2)], [(3, 7, 4)])
PATH_PAPER = ([(1, 0), (3, 2), (4, 0), (9, 2)], [(1, 3, 4), (4, 9, 2)])
TRIANGLE_PAPER = ([(0, 1), (1, 1), (2, 1)], [(0, 1, 2), (0, 2, 4), (1, 2, 6)])
GREAT = 10 ** 12


class HalvesCase(unittest.TestCase):
    def lets(self, web, paper):
        self.assertIs(lets_halves(web, paper), True, (web, paper))

    def misses(self, web, paper):
        self.assertIs(lets_halves(web, paper), False, (web, paper))


class TestLets(HalvesCase):
    def test_papers(self):
        self.lets(TIE, TIE_PAPER)
        self.lets(PATH, PATH_PAPER)
        self.lets(PATH, ([(1, 0), (3, 2), (4, 0), (9, 2)], [(1, 3, 2), (3, 4, 2), (4, 9, 2)]))
        self.lets(TRIANGLE, TRIANGLE_PAPER)
        self.lets(([(0, 1), (1, 1)], [(0, 1)]), ([(0, 1), (1, 1)], [(0, 1, 2)]))
        self.lets(([(0, 1), (1, 1)], [(0, 1)]), ([(0, 2), (1, 0)], [(0, 1, 2)]))
        self.lets(([(0, 1), (1, 1)], [(0, 1)]), ([(0, 0), (1, 2)], [(0, 1, 2)]))
        self.lets(([(5, GREAT)], []), ([(5, 0)], []))

    def test_the_web_without_places(self):
        self.lets(EMPTY, ([], []))
        for thing in ANYTHING:
            self.assertIs(lets_halves(EMPTY, thing), alike(thing, ([], [])))
        for thing in spoilt(([], [])):
            self.assertIs(lets_halves(EMPTY, thing), alike(thing, ([], [])))

    def test_things_of_any_kind(self):
        for thing in ANYTHING:
            self.misses(PATH, thing)
            self.misses(PATH, (PATH_PAPER[0], thing))
            self.misses(PATH, (thing, PATH_PAPER[1]))
            for at in range(4):
                self.misses(PATH, (PATH_PAPER[0][:at] + [thing] + PATH_PAPER[0][at + 1:], PATH_PAPER[1]))
            for at in range(2):
                self.misses(PATH, (PATH_PAPER[0], PATH_PAPER[1][:at] + [thing] + PATH_PAPER[1][at + 1:]))

    def test_noughts_halves_and_ones(self):
        dues = TIE_PAPER[1]
        for h in (-1, 3, True, False, "0", None, [0]):
            self.misses(TIE, ([(3, h), (7, 2)], dues))
            self.misses(TIE, ([(3, 0), (7, h)], dues))
        # What these cost would fit the dues.
        self.misses(([(0, 1), (1, 1), (2, 1)], [(1, 2)]), ([(0, -1), (1, 1), (2, 1)], [(1, 2, 1)]))
        self.misses(([(0, 3), (1, 1)], [(0, 1)]), ([(0, -1), (1, 5)], [(0, 1, 2)]))
        self.misses(([(0, 1), (1, 1)], [(0, 1)]), ([(0, 3), (1, -1)], [(0, 1, 2)]))
        self.misses(([(0, 3), (1, 3), (2, 3)], TRIANGLE[1]), ([(0, 3), (1, 0), (2, 0)],
                                                            [(0, 1, 3), (0, 2, 3), (1, 2, 3)]))

    def test_ties_that_are_left(self):
        self.misses(TIE, ([(3, 0), (7, 1)], [(3, 7, 2)]))
        self.misses(TIE, ([(3, 0), (7, 0)], []))
        self.misses(TIE, ([(3, 1), (7, 0)], [(3, 7, 4)]))

    def test_truths(self):
        self.misses(([(0, 1), (1, 1)], [(0, 1)]), ([(0, True), (1, 1)], [(0, 1, 2)]))
        self.misses(([(0, 1), (1, 1)], [(0, 1)]), ([(0, 1), (True, 1)], [(0, 1, 2)]))
        self.misses(([(0, 1), (1, 1)], [(0, 1)]), ([(False, 1), (1, 1)], [(0, 1, 2)]))
        self.misses(([(0, 1), (1, 1)], [(0, 1)]), ([(0, 1), (1, 1)], [(0, True, 2)]))
        self.misses(([(0, 1), (1, 1)], [(0, 1)]), ([(0, 1), (1, 1)], [(False, 1, 2)]))
        both = ([(0, 1), (1, 1), (2, 1)], [(0, 1), (1, 2)])
        self.lets(both, ([(0, 0), (1, 2), (2, 0)], [(0, 1, 1), (1, 2, 1)]))
        self.misses(both, ([(0, 0), (1, 2), (2, 0)], [(0, 1, True), (1, 2, 1)]))

    def test_dues(self):
        halves = TRIANGLE_PAPER[0]
        for dues in ([(0, 1, 2), (0, 2, 4)], [(0, 2, 4), (0, 1, 2), (1, 2, 6)], [(0, 1, 2), (1, 2, 6), (0, 2, 4)],
                     [(1, 0, 2), (0, 2, 4), (1, 2, 6)], [(0, 1, 1), (0, 1, 1), (0, 2, 4), (1, 2, 6)],
                     [(0, 1, 2), (0, 2, 4), (1, 2, 7)], [(0, 1, 2), (0, 2, 4), (1, 2, 5)],
                     [(0, 1, 3), (0, 2, 4), (1, 2, 5)], [(0, 1, 2), (0, 2, 3), (1, 2, 7)],
                     [(0, 1, 2), (0, 2, 4), (1, 3, 6)], [(0, 0, 2), (0, 2, 4), (1, 2, 6)],
                     [(0, 1, 2), (0, 2, 4), (1, 2, 6), (1, 2, 0)], [(0, 1, 2, 0), (0, 2, 4), (1, 2, 6)],
                     [(0, 1), (0, 2, 4), (1, 2, 6)], [[0, 1, 2], (0, 2, 4), (1, 2, 6)],
                     ((0, 1, 2), (0, 2, 4), (1, 2, 6)), [(0, 1, 2), (0, 2, 5), (1, 2, 5)]):
            self.misses(TRIANGLE, (halves, dues))

    def test_amounts_of_nought_and_less(self):
        web = ([(0, 2), (1, 1), (2, 2)], [(0, 1), (1, 2)])
        self.lets(web, ([(0, 0), (1, 2), (2, 0)], [(0, 1, 2)]))
        self.lets(web, ([(0, 0), (1, 2), (2, 0)], [(0, 1, 1), (1, 2, 1)]))
        self.misses(web, ([(0, 0), (1, 2), (2, 0)], [(0, 1, 2), (1, 2, 0)]))
        self.misses(web, ([(0, 0), (1, 2), (2, 0)], [(0, 1, 3), (1, 2, -1)]))

    def test_paid_too_much(self):
        web = ([(0, 3), (1, 1)], [(0, 1)])
        self.lets(web, ([(0, 0), (1, 2)], [(0, 1, 2)]))
        self.misses(web, ([(0, 1), (1, 1)], [(0, 1, 4)]))
        self.misses(web, ([(0, 2), (1, 0)], [(0, 1, 6)]))
        star = ([(0, 2), (1, 9), (2, 9)], [(0, 1), (0, 2)])
        self.lets(star, ([(0, 2), (1, 0), (2, 0)], [(0, 1, 3), (0, 2, 1)]))
        self.misses(star, ([(0, 1), (1, 1), (2, 1)], [(0, 1, 10), (0, 2, 10)]))

    def test_cost_one_more_and_one_less(self):
        self.misses(TIE, (TIE_PAPER[0], [(3, 7, 3)]))
        self.misses(TIE, (TIE_PAPER[0], [(3, 7, 5)]))
        self.misses(TIE, ([(3, 1), (7, 2)], [(3, 7, 4)]))
        self.misses(TIE, ([(3, 1), (7, 1)], [(3, 7, 4)]))

    def test_lone_places(self):
        web = ([(4, 3)], [])
        self.lets(web, ([(4, 0)], []))
        for h in (1, 2):
            self.misses(web, ([(4, h)], []))

    def test_three_parts_and_one(self):
        self.misses(TIE, TIE_PAPER + ([],))
        self.misses(TIE, TIE_PAPER[:1])
        self.misses(TIE, list(TIE_PAPER))

    def test_missed_by_one_thing(self):
        rng = random.Random(41)
        webs = [TIE, PATH, TRIANGLE, SCATTERED] + [chance_web(rng, many=rng.randrange(2, 5)) for _ in range(12)]
        for web in webs:
            paper = halves_of(web)
            self.lets(web, paper)
            for thing in spoilt(paper):
                self.assertIs(lets_halves(web, thing), paper_reads(web, thing), (web, thing))

    def test_no_web_goes_ahead(self):
        for thing in NO_WEBS:
            for paper in (([], []), None, TIE_PAPER):
                with self.assertRaises(NoWeb):
                    lets_halves(thing, paper)

    def test_by_chance(self):
        rng = random.Random(42)
        met = 0
        for _ in range(400):
            web = chance_web(rng, many=rng.randrange(1, 4), most_price=2, density=0.8)
            halves = [(place, rng.choice([0, 1, 2])) for place, _ in web[0]]
            dues = [tie + (rng.randint(1, 4),) for tie in web[1] if rng.random() < 0.7]
            told = lets_halves(web, (halves, dues))
            self.assertIs(told, paper_reads(web, (halves, dues)))
            met += told
        self.assertGreater(met, 20)


class TestCost(HalvesCase):
    def test_costs(self):
        self.assertTrue(alike(halves_cost(EMPTY, []), 0))
        self.assertTrue(alike(halves_cost(TIE, TIE_PAPER[0]), 4))
        self.assertEqual(halves_cost(TIE, [(3, 1), (7, 1)]), 7)
        self.assertEqual(halves_cost(TIE, [(3, 2), (7, 2)]), 14)
        self.assertEqual(halves_cost(([(0, GREAT)], []), [(0, 2)]), 2 * GREAT)

    def test_no_web(self):
        for thing in NO_WEBS:
            with self.assertRaises(NoWeb):
                halves_cost(thing, [])

    def test_by_chance(self):
        rng = random.Random(43)
        for _ in range(40):
            web = chance_web(rng, many=rng.randrange(0, 6))
            for halves in itertools.islice(all_halves(web), 50):
                self.assertEqual(halves_cost(web, list(halves.items())), halved_cost(web, halves))


class TestTold(HalvesCase):
    def told(self, web, hs):
        paper = halves_of(web)
        self.lets(web, paper)
        self.assertTrue(paper_reads(web, paper))
        self.assertTrue(alike(paper[0], [(pair[0], h) for pair, h in zip(web[0], hs)]), (web, paper))

    def test_small_ones(self):
        self.assertTrue(alike(halves_of(EMPTY), ([], [])))
        self.assertTrue(alike(halves_of(([(4, 3)], [])), ([(4, 0)], [])))
        self.assertTrue(alike(halves_of(TIE), TIE_PAPER))
        self.told(([(3, 5), (7, 5)], [(3, 7)]), (1, 1))
        self.told(PATH, (0, 2, 0, 2))
        self.told(TRIANGLE, (1, 1, 1))
        self.told(SCATTERED, (2, 2, 2, 0, 0, 0))

    def test_webs_without_ties(self):
        for many in (1, 2, 40):
            self.told(([(k, k + 1) for k in range(many)], []), [0] * many)

    def test_against_all_rows(self):
        rng = random.Random(44)
        fixed = 0
        for _ in range(400):
            web = chance_web(rng, many=rng.randrange(0, 7), most_price=rng.choice([1, 2, 3, 9]))
            paper = halves_of(web)
            self.lets(web, paper)
            self.assertEqual(paper[0], alike_in_all(web), web)
            self.assertIn(dict(paper[0]), cheapest_halves(web))
            fixed += any(h != 1 for _, h in paper[0]) and any(h == 1 for _, h in paper[0])
        self.assertGreater(fixed, 20)

    def test_the_most_halves_of_all_cheapest(self):
        rng = random.Random(45)
        for _ in range(60):
            web = chance_web(rng, many=rng.randrange(1, 6), most_price=2)
            told = list(dict(halves_of(web)[0]).values()).count(1)
            others = [list(row.values()).count(1) for row in cheapest_halves(web)]
            self.assertEqual(told, max(others))
            self.assertEqual(others.count(told), 1)

    def test_strings_with_great_prices(self):
        for many in (2, 3, 7, 24, 39, 40):
            great = GREAT // many
            places = [(k, great - k % 3) for k in range(many)]
            paper = halves_of((places, line_of(many)[1]))
            self.lets((places, line_of(many)[1]), paper)
            # A string has two sides: the cheapest halves cost twice what a cheapest set costs.
            self.assertEqual(halves_cost((places, line_of(many)[1]), paper[0]), 2 * string_cost(places))
            self.told(line_of(many, great), [1] * many if many % 2 == 0 else [2 * (k % 2) for k in range(many)])

    def test_strings_that_rise(self):
        for many in (10, 33, 40):
            places = [(k, 2 ** (k % 33)) for k in range(many)]
            web = (places, line_of(many)[1])
            paper = halves_of(web)
            self.lets(web, paper)
            self.assertEqual(halves_cost(web, paper[0]), 2 * string_cost(places))

    def test_all_tied_to_one_another(self):
        for others, middle in (((5, 5, 5), 15), ((10 ** 10,) * 10, 10 ** 11), ((1, 2, 4, 8), 15), ((1, 1), 2)):
            many = len(others)
            for more in (-1, 0, 1):
                places = [(k, price) for k, price in enumerate(others)] + [(many, middle + more)]
                web = (places, list(itertools.combinations(range(many + 1), 2)))
                self.told(web, [2] * many + [0] if more == 1 else [1] * (many + 1))

    def test_odd_rings(self):
        for many in (3, 5, 7, 21, 39):
            for price in (1, 7, GREAT // many):
                ties = sorted([(k, k + 1) for k in range(many - 1)] + [(0, many - 1)])
                self.told(([(k, price) for k in range(many)], ties), [1] * many)

    def test_stars(self):
        for many in (1, 2, 5, 39):
            for middle, hs in ((many - 1, [2] + [0] * many), (many, [1] * (many + 1)), (many + 1, [0] + [2] * many)):
                if middle:
                    self.told(([(0, middle)] + [(k + 1, 1) for k in range(many)],
                               [(0, k + 1) for k in range(many)]), hs)

    def test_many_ties(self):
        rng = random.Random(46)
        for _ in range(12):
            web = chance_web(rng, many=40, most_price=rng.choice([1, 9, 10 ** 10]), density=0.2)
            paper = halves_of(web)
            self.lets(web, paper)
            left = less_places(web, [place for place, h in paper[0] if h != 1])
            self.assertEqual(halves_of(left)[0], [(place, 1) for place, _ in left[0]])

    def test_no_web(self):
        for thing in NO_WEBS:
            with self.assertRaises(NoWeb):
                halves_of(thing)


def string_cost(places):
    """The least cost along a string, by whether the last place is in."""
    inside, outside = 0, 0
    for _, price in places:
        inside, outside = min(inside, outside) + price, inside
    return min(inside, outside)


class TestSets(HalvesCase):
    def test_ones_and_noughts_against_all_sets(self):
        rng = random.Random(47)
        for _ in range(120):
            web = chance_web(rng, many=rng.randrange(0, 6), most_price=rng.choice([1, 2, 5]))
            least = least_sets(web)
            prices = dict(web[0])
            for halves in cheapest_halves(web):
                ones = {place for place in halves if halves[place] == 2}
                noughts = {place for place in halves if halves[place] == 0}
                self.assertTrue(any(ones <= set(some) and not noughts & set(some) for some in least))
                left = less_places(web, ones | noughts)
                self.assertEqual(least_cost(web), sum(prices[place] for place in ones) + least_cost(left))

    def test_no_halves_cost_less_than_those_let_by(self):
        rng = random.Random(48)
        for _ in range(120):
            web = chance_web(rng, many=rng.randrange(0, 6), most_price=3)
            dues = halves_of(web)[1]
            cheapest = cheapest_halves(web)
            for halves in all_halves(web):
                self.assertIs(lets_halves(web, (list(halves.items()), dues)), halves in cheapest)

    def test_told_halves_of_the_halves_alone_are_all_halves(self):
        rng = random.Random(49)
        for _ in range(120):
            web = chance_web(rng, many=rng.randrange(0, 9), most_price=rng.choice([1, 2, 5]))
            left = less_places(web, [place for place, h in halves_of(web)[0] if h != 1])
            self.assertEqual(halves_of(left)[0], [(place, 1) for place, _ in left[0]])


if __name__ == "__main__":
    unittest.main()
