import random
import unittest

from tests.helping import (EMPTY, NO_WEBS, PATH, SCATTERED, TRIANGLE, alike, chance_web, cheapest_halves, least_cost,
                           line_of, nears_of, paper_reads, rule_reads, step_reads, step_tries)
from touchall.errors import NoWeb
from touchall.halves import halves_of
from touchall.shrinking import fitting, made_small
from touchall.steps import fits
from touchall.walks import walked

WORDS = ("lone", "near", "leaf", "over", "twins", "fold")


def read_fitting(web):
    known = (dict(web[0]), nears_of(web))
    return [step for step in step_tries(web)
            if rule_reads(web, step, known) is not None and (step[0] != "twins" or step[1] < step[2])]


def ring_of(many, price):
    return ([(k, price(k)) for k in range(many)], sorted([(k, k + 1) for k in range(many - 1)] + [(0, many - 1)]))


def comb_of(many, price):
    """A string with a tooth at each of its places."""
    return ([(k, price(k)) for k in range(2 * many)],
            sorted([(k, k + 1) for k in range(many - 1)] + [(k, k + many) for k in range(many)]))


def great_webs():
    rng = random.Random(81)
    for price in (lambda k: 1, lambda k: 5 + k % 3, lambda k: rng.randint(1, 9), lambda k: rng.randint(1, 10 ** 10)):
        yield ([(k, price(k)) for k in range(40)], line_of(40)[1])
        yield ring_of(40, price)
        yield ring_of(39, price)
        yield comb_of(20, price)
        for density in (0.04, 0.08, 0.15):
            web = chance_web(rng, many=40, density=density)
            yield ([(place, price(place)) for place, _ in web[0]], web[1])


class TestFitting(unittest.TestCase):
    def test_small_ones(self):
        self.assertTrue(alike(fitting(EMPTY), []))
        self.assertTrue(alike(fitting(([(4, 3)], [])), [("lone", 4)]))
        self.assertTrue(alike(fitting(PATH), [("near", 1), ("near", 4), ("leaf", 9), ("over", 1, 3)]))
        self.assertTrue(alike(fitting(TRIANGLE), [("over", 1, 0), ("over", 2, 0), ("over", 2, 1)]))
        square = ([(0, 3), (1, 4), (2, 5), (3, 6)], [(0, 1), (0, 3), (1, 2), (2, 3)])
        self.assertTrue(alike(fitting(square), [("twins", 0, 2), ("twins", 1, 3), ("fold", 3)]))
        self.assertTrue(alike(fitting(SCATTERED), [("lone", 7), ("near", 8), ("near", 999), ("leaf", 0), ("leaf", 2),
                                                   ("leaf", 5), ("over", 999, 2), ("twins", 0, 5)]))

    def test_nothing_fits(self):
        # Each place near three others, with nothing in common, all of one price.
        cube = ([(k, 1) for k in range(8)], sorted((a, a ^ bit) for a in range(8) for bit in (1, 2, 4) if not a & bit))
        self.assertEqual(fitting(cube), [])
        self.assertEqual(made_small(cube), [])

    def test_against_a_reading(self):
        rng = random.Random(82)
        met = dict.fromkeys(WORDS, 0)
        for _ in range(300):
            web = chance_web(rng, many=rng.randrange(0, 9), most_price=rng.choice([1, 2, 4, 9]))
            told = fitting(web)
            self.assertTrue(alike(told, read_fitting(web)), web)
            for step in told:
                met[step[0]] += 1
        self.assertGreater(min(met.values()), 20)

    def test_great_ones(self):
        for web in great_webs():
            self.assertTrue(alike(fitting(web), read_fitting(web)))

    def test_the_order(self):
        for web in great_webs():
            told = fitting(web)
            self.assertEqual(told, sorted(told, key=lambda step: (WORDS.index(step[0]), step)))
            self.assertEqual(len(told), len(set(told)))

    def test_no_web(self):
        for thing in NO_WEBS:
            for ask in (fitting, made_small):
                with self.assertRaises(NoWeb):
                    ask(thing)


class TestMadeSmall(unittest.TestCase):
    def check(self, web):
        told = made_small(web)
        here = web
        for step in told:
            first = read_fitting(here)[:1]
            if first:
                self.assertTrue(alike([step], first), (here, step))
            else:
                self.assertEqual(step[0], "halves")
                self.assertTrue(paper_reads(here, step[1]))
                self.assertTrue(alike(step[1][0], halves_of(here)[0]))
            here = step_reads(here, step)[0]
        self.assertEqual(read_fitting(here), [])
        self.assertTrue(all(h == 1 for _, h in halves_of(here)[0]))
        self.assertTrue(alike(walked(web, told)[0], here))
        return told, here

    def test_small_ones(self):
        self.assertTrue(alike(made_small(EMPTY), []))
        self.assertTrue(alike(made_small(([(4, 3)], [])), [("lone", 4)]))
        self.assertTrue(alike(made_small(PATH), [("near", 1), ("near", 4)]))
        self.assertTrue(alike(made_small(TRIANGLE), [("over", 1, 0), ("near", 2)]))

    def test_small_ones_by_chance(self):
        rng = random.Random(83)
        for _ in range(200):
            web = chance_web(rng, many=rng.randrange(0, 9), most_price=rng.choice([1, 2, 4, 9]))
            told, here = self.check(web)
            self.assertEqual(least_cost(web), least_cost(here) + walked(web, told)[1])

    def test_great_ones(self):
        for web in great_webs():
            self.check(web)

    def test_without_places_left(self):
        for web in great_webs():
            if len(web[1]) < 40 and web[0][-1][0] == 39:
                self.assertEqual(self.check(web)[1], EMPTY)

    def test_a_step_of_the_told_halves(self):
        # Each tie of two threes by four is there but a few: no rule fits, and the three cost less.
        web = ([(k, 5) for k in range(4)] + [(k, 4) for k in range(4, 8)],
               sorted((a, 4 + b) for a in range(4) for b in range(4) if a != b))
        told = made_small(web)
        self.assertEqual(told[0][0], "halves")
        self.assertEqual(told[0][1][0], [(k, 0) for k in range(4)] + [(k, 2) for k in range(4, 8)])
        self.check(web)

    def test_nothing_fits_but_other_cheapest_halves(self):
        rng = random.Random(84)
        met = 0
        for _ in range(200):
            web = chance_web(rng, many=rng.randrange(6, 9), most_price=3, density=0.5)
            here = self.check(web)[1]
            for row in cheapest_halves(here) if here[0] else []:
                step = ("halves", (list(row.items()), halves_of(here)[1]))
                met += 1
                self.assertIs(fits(here, step), any(h != 1 for h in row.values()))
        self.assertGreater(met, 0)


if __name__ == "__main__":
    unittest.main()
