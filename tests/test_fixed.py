import random
import unittest

from tests.helping import (ANYTHING, EMPTY, NO_WEBS, PATH, SCATTERED, TRIANGLE, alike, alike_in_all, chance_web,
                           cheapest_halves, is_number, least_sets, line_of, nears_of, paper_reads, spoilt)
from touchall.errors import NoWeb
from touchall.fixed import fixed_by, fixed_of, fixed_paper, lets_fixed
from touchall.halves import halves_of, lets_halves

HALVES = [(1, 0), (3, 2), (4, 0), (9, 2)]
DUES = [(1, 3, 4), (4, 9, 2)]
CHAIN = [("loose", 1), ("beside", 1, 3), ("loose", 4), ("beside", 4, 9), ("tight", 3, 1), ("tight", 9, 4)]

# Place 2 is paid to the last: it is out by the tight tuple alone.
BENT = ([(0, 3), (1, 4), (2, 2)], [(0, 1), (1, 2)])
BENT_HALVES = [(0, 0), (1, 2), (2, 0)]
BENT_DUES = [(0, 1, 4), (1, 2, 4)]


def chain_reads(web, dues, chain):
    """A plain reading of a chain, by those of its tuples ahead of each."""
    if not isinstance(chain, list) or len(chain) > 200:
        return False
    prices, nears = dict(web[0]), nears_of(web)
    ins, outs = set(), set()
    for link in chain:
        if not isinstance(link, tuple) or len(link) < 2 or not isinstance(link[0], str):
            return False
        if any(not is_number(place) or place not in prices for place in link[1:]):
            return False
        if link[0] == "loose" and len(link) == 2:
            if sum(due[2] for due in dues if link[1] in due[:2]) >= 2 * prices[link[1]]:
                return False
            outs.add(link[1])
        elif link[0] == "beside" and len(link) == 3:
            if link[1] not in outs or link[2] not in nears[link[1]]:
                return False
            ins.add(link[2])
        elif link[0] == "tight" and len(link) == 3:
            if link[1] not in ins or tuple(sorted(link[1:])) not in [due[:2] for due in dues]:
                return False
            outs.add(link[2])
        else:
            return False
    return True


def reads(web, thing):
    if not isinstance(thing, tuple) or len(thing) != 3 or not paper_reads(web, thing[:2]):
        return False
    return chain_reads(web, thing[1], thing[2])


class FixedCase(unittest.TestCase):
    def lets(self, web, thing):
        self.assertIs(lets_fixed(web, thing), True, (web, thing))

    def misses(self, web, thing):
        self.assertIs(lets_fixed(web, thing), False, (web, thing))

    def chained(self, chain):
        self.lets(PATH, (HALVES, DUES, chain))

    def unchained(self, chain):
        self.misses(PATH, (HALVES, DUES, chain))


class TestLets(FixedCase):
    def test_chains(self):
        self.chained(CHAIN)
        self.chained([])
        for many in range(len(CHAIN)):
            self.chained(CHAIN[:many])
        self.chained([("loose", 4), ("beside", 4, 3)])
        self.chained(CHAIN + CHAIN)
        self.chained([("loose", 1)] * 3)
        self.lets(BENT, (BENT_HALVES, BENT_DUES, [("loose", 0), ("beside", 0, 1), ("tight", 1, 2)]))
        self.misses(BENT, (BENT_HALVES, BENT_DUES, [("loose", 0), ("beside", 0, 1), ("loose", 2)]))
        self.lets(EMPTY, ([], [], []))

    def test_left_out(self):
        for at in (0, 1, 2, 3):
            self.unchained(CHAIN[:at] + CHAIN[at + 1:])

    def test_exchanged(self):
        self.unchained([("beside", 1, 3), ("loose", 1)])
        self.unchained([("loose", 1), ("tight", 3, 1), ("beside", 1, 3)])

    def test_turned_about(self):
        self.unchained([("loose", 1), ("beside", 3, 1)])
        self.unchained([("loose", 1), ("beside", 1, 3), ("tight", 1, 3)])

    def test_by_itself(self):
        self.unchained([("beside", 3, 3)])
        self.unchained([("loose", 1), ("beside", 1, 1)])
        self.unchained([("loose", 1), ("beside", 1, 3), ("tight", 3, 3)])

    def test_other_words(self):
        self.unchained([("tight", 1)])
        self.unchained([("beside", 1)])
        self.unchained([("loose", 1), ("tight", 1, 3)])
        self.unchained([("loose", 1), ("loose", 1, 3)])
        self.unchained([("loose", 1), ("beside", 1, 3), ("beside", 3, 1)])
        self.unchained([("loose", 1), ("beside", 1, 3), ("loose", 3, 1)])
        for word in ("", "Loose", "loose ", "out", "in", "all", None, 1, ["loose"], ("loose",), {}):
            self.unchained([(word, 1)])
            self.unchained([("loose", 1), (word, 1, 3)])

    def test_other_places(self):
        self.unchained([("loose", 3)])
        self.unchained([("loose", 9)])
        self.unchained([("loose", 1), ("beside", 1, 4)])
        self.unchained([("loose", 1), ("beside", 1, 9)])
        self.unchained([("loose", 1), ("beside", 4, 3)])
        # Tied, but without a due.
        self.unchained([("loose", 1), ("beside", 1, 3), ("tight", 3, 4)])
        for place in (0, 2, True, False, None, "1", [1], (1,), {}, -1, 999):
            self.unchained([("loose", place)])
            self.unchained([("loose", 1), ("beside", place, 3)])
            self.unchained([("loose", 1), ("beside", 1, place)])
            self.unchained([("loose", 1), ("beside", 1, 3), ("tight", 3, place)])
            self.unchained([("loose", 1), ("beside", 1, 3), ("tight", place, 1)])

    def test_truths_as_places(self):
        web = ([(0, 5), (1, 2)], [(0, 1)])
        paper = ([(0, 0), (1, 2)], [(0, 1, 4)])
        self.lets(web, paper + ([("loose", 0), ("beside", 0, 1), ("tight", 1, 0)],))
        for chain in ([("loose", False)], [("loose", 0), ("beside", False, 1)], [("loose", 0), ("beside", 0, True)],
                      [("loose", 0), ("beside", 0, 1), ("tight", True, 0)],
                      [("loose", 0), ("beside", 0, 1), ("tight", 1, False)]):
            self.misses(web, paper + (chain,))

    def test_too_few_and_too_many_parts(self):
        for link in ((), ("loose",), ("loose", 1, 1), ("loose", 1, 1, 1), ("loose", 1, None)):
            self.unchained([link])
        for link in (("beside", 1), ("beside", 1, 3, 3), ("beside",)):
            self.unchained([("loose", 1), link])
        for link in (("tight", 3), ("tight", 3, 1, 1), ("tight",)):
            self.unchained([("loose", 1), ("beside", 1, 3), link])
        paper = (HALVES, DUES, CHAIN)
        for thing in (paper[:2], paper[:1], paper + ([],), list(paper), ()):
            self.misses(PATH, thing)

    def test_two_hundred_and_one_more(self):
        self.chained([("loose", 1)] * 200)
        self.unchained([("loose", 1)] * 201)
        self.chained(CHAIN + [("tight", 9, 4)] * 194)
        self.unchained(CHAIN + [("tight", 9, 4)] * 195)

    def test_loose_by_one(self):
        web = ([(0, 2), (1, 2), (2, 2)], [(0, 1), (1, 2)])
        halves = [(0, 0), (1, 2), (2, 0)]
        self.lets(web, (halves, [(0, 1, 4)], [("loose", 2), ("beside", 2, 1), ("tight", 1, 0)]))
        self.misses(web, (halves, [(0, 1, 4)], [("loose", 0)]))
        self.lets(web, (halves, [(0, 1, 3), (1, 2, 1)], [("loose", 0), ("loose", 2)]))

    def test_kinds(self):
        for thing in ANYTHING:
            self.misses(PATH, thing)
            self.assertIs(lets_fixed(PATH, (HALVES, DUES, thing)), alike(thing, []))
            self.unchained([thing])
            self.unchained(CHAIN + [thing])
        self.unchained(tuple(CHAIN))
        self.unchained([list(link) for link in CHAIN])

    def test_the_paper_of_halves_within_it_spoilt(self):
        for thing in spoilt((HALVES, DUES)):
            if isinstance(thing, tuple) and len(thing) == 2:
                self.assertIs(lets_fixed(PATH, thing + ([],)), lets_halves(PATH, thing))
        self.misses(PATH, (HALVES, [(1, 3, 4), (4, 9, 1)], []))
        self.misses(PATH, (HALVES, [(1, 3, 4), (4, 9, 3)], [("loose", 1)]))
        self.misses(PATH, (HALVES[:3], DUES, []))
        self.misses(PATH, ([(1, 0), (3, 2), (4, 1), (9, 2)], DUES, []))

    def test_missed_by_one_thing(self):
        rng = random.Random(51)
        webs = [PATH, BENT, SCATTERED, TRIANGLE] + [chance_web(rng, many=rng.randrange(2, 5)) for _ in range(8)]
        for web in webs:
            paper = fixed_paper(web)
            for thing in spoilt(paper):
                self.assertIs(lets_fixed(web, thing), reads(web, thing), (web, thing))

    def test_by_chance(self):
        rng = random.Random(52)
        met = 0
        for _ in range(2000):
            web = rng.choice([PATH, BENT, SCATTERED])
            paper = halves_of(web)
            numbers = [place for place, _ in web[0]]
            chain = []
            for _ in range(rng.randrange(1, 5)):
                word = rng.choice(["loose", "beside", "tight"])
                chain.append((word,) + tuple(rng.choice(numbers) for _ in range(1 if word == "loose" else 2)))
            told = lets_fixed(web, paper + (chain,))
            self.assertIs(told, chain_reads(web, paper[1], chain))
            met += told
        self.assertGreater(met, 50)

    def test_no_web_goes_ahead(self):
        for thing in NO_WEBS:
            for paper in (([], [], []), None):
                with self.assertRaises(NoWeb):
                    lets_fixed(thing, paper)


class TestFixedBy(FixedCase):
    def test_chains(self):
        self.assertTrue(alike(fixed_by([]), ([], [])))
        self.assertTrue(alike(fixed_by(CHAIN), ([3, 9], [1, 4])))
        self.assertTrue(alike(fixed_by([("loose", 9), ("loose", 4), ("beside", 4, 2), ("beside", 4, 1),
                                        ("tight", 2, 7)]), ([1, 2], [4, 7, 9])))

    def test_alike_tuples(self):
        self.assertTrue(alike(fixed_by(CHAIN + CHAIN[::-1]), ([3, 9], [1, 4])))
        self.assertTrue(alike(fixed_by([("loose", 5)] * 4), ([], [5])))
        self.assertEqual(fixed_by([("loose", 1), ("loose", 4), ("beside", 1, 3), ("beside", 4, 3)]), ([3], [1, 4]))


def named(chain, word):
    return [link[-1] for link in chain if (link[0] == "beside") == (word == "in")]


class TestTold(FixedCase):
    def check(self, web):
        paper = fixed_paper(web)
        self.lets(web, paper)
        self.assertTrue(reads(web, paper))
        self.assertTrue(alike(paper[0], halves_of(web)[0]))
        ones = [place for place, h in paper[0] if h == 2]
        noughts = [place for place, h in paper[0] if h == 0]
        self.assertEqual(sorted(named(paper[2], "in")), ones)
        self.assertEqual(sorted(named(paper[2], "out")), noughts)
        self.assertTrue(alike(fixed_of(web), (ones, noughts)))
        self.assertEqual(fixed_by(paper[2]), (ones, noughts))
        return ones, noughts

    def test_small_ones(self):
        self.assertTrue(alike(fixed_paper(EMPTY), ([], [], [])))
        self.assertTrue(alike(fixed_paper(([(4, 3)], [])), ([(4, 0)], [], [("loose", 4)])))
        self.assertEqual(self.check(PATH), ([3, 9], [1, 4]))
        self.assertEqual(self.check(BENT), ([1], [0, 2]))
        self.assertEqual(self.check(TRIANGLE), ([], []))
        self.assertEqual(self.check(SCATTERED), ([0, 2, 5], [7, 8, 999]))

    def test_stars(self):
        for many in (1, 2, 7, 39):
            for price in (1, 10 ** 9):
                others = [(k + 1, price) for k in range(many)]
                ties = [(0, k + 1) for k in range(many)]
                numbers = [k + 1 for k in range(many)]
                self.assertEqual(self.check(([(0, many * price + 1)] + others, ties)), (numbers, [0]))
                self.assertEqual(self.check(([(0, many * price)] + others, ties)), ([], []))
                if many * price > 1:
                    self.assertEqual(self.check(([(0, many * price - 1)] + others, ties)), ([0], numbers))

    def test_strings_of_forty(self):
        self.assertEqual(self.check(line_of(40)), ([], []))
        self.assertEqual(self.check(line_of(39)), (list(range(1, 39, 2)), list(range(0, 39, 2))))
        places, ties = line_of(40, 3)
        self.assertEqual(self.check(([(0, 4)] + places[1:], ties)), ([1], [0]))
        uneven = [(k, 3 if k % 2 else 4) for k in range(40)]
        self.assertEqual(self.check((uneven, ties)), (list(range(1, 40, 2)), list(range(0, 40, 2))))
        rng = random.Random(53)
        for _ in range(10):
            self.check(([(k, rng.randint(1, 10 ** 10)) for k in range(40)], ties))

    def test_against_all_sets(self):
        rng = random.Random(54)
        met = 0
        for _ in range(200):
            web = chance_web(rng, many=rng.randrange(0, 7), most_price=rng.choice([1, 2, 5]))
            ones, noughts = self.check(web)
            for some in least_sets(web):
                self.assertTrue(set(ones) <= set(some) and not set(noughts) & set(some))
            self.assertEqual([(place, 2) for place in ones] + [(place, 0) for place in noughts],
                             [pair for pair in alike_in_all(web) if pair[1] == 2]
                             + [pair for pair in alike_in_all(web) if pair[1] == 0])
            met += any(link[0] == "tight" for link in fixed_paper(web)[2])
        self.assertGreater(met, 10)

    def test_what_is_let_by_is_so_in_all_cheapest_halves(self):
        rng = random.Random(55)
        for _ in range(300):
            web = chance_web(rng, many=rng.randrange(1, 6), most_price=2)
            numbers = [place for place, _ in web[0]]
            paper = halves_of(web)
            chain = [("loose", place) for place in numbers if lets_fixed(web, paper + ([("loose", place)],))]
            for _ in range(2):
                for u in numbers:
                    for v in numbers:
                        for word in ("beside", "tight"):
                            if len(chain) < 200 and lets_fixed(web, paper + (chain + [(word, u, v)],)):
                                chain.append((word, u, v))
            ins, outs = fixed_by(chain)
            for row in cheapest_halves(web):
                self.assertTrue(all(row[place] == 2 for place in ins) and all(row[place] == 0 for place in outs))
            for some in least_sets(web):
                self.assertTrue(set(ins) <= set(some) and not set(outs) & set(some))

    def test_many_ties(self):
        rng = random.Random(56)
        for _ in range(12):
            density = rng.choice([0.04, 0.1])
            self.check(chance_web(rng, many=40, most_price=rng.choice([2, 9, 10 ** 10]), density=density))

    def test_no_web(self):
        for thing in NO_WEBS:
            for ask in (fixed_paper, fixed_of):
                with self.assertRaises(NoWeb):
                    ask(thing)


if __name__ == "__main__":
    unittest.main()
