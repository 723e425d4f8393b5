import random
import unittest

from tests.helping import (ANYTHING, EMPTY, NO_WEBS, PATH, SCATTERED, TRIANGLE, alike, chance_web, cheapest_halves,
                           cost, least_cost, less_places, nears_of, paper_reads, refusal, repriced, spoilt,
                           step_reads, step_tries, touches, touching_sets)
from touchall.errors import NoSet, NoStep, NoWeb
from touchall.halves import halves_of
from touchall.sets import is_set
from touchall.steps import after, back, fits, forth
from touchall.webs import look_at_web

STAR = ([(0, 6), (1, 1), (2, 2), (3, 3)], [(0, 1), (0, 2), (0, 3)])
# Near 5 are 2 and 8, which are tied to 1 and to 9, and to 9.
FOLDED = ([(1, 7), (2, 4), (5, 5), (8, 3), (9, 6)], [(1, 2), (1, 9), (2, 5), (2, 9), (5, 8), (8, 9)])
SQUARE = ([(0, 3), (1, 4), (2, 5), (3, 6)], [(0, 1), (0, 3), (1, 2), (2, 3)])
KITE = ([(0, 5), (1, 5), (2, 9), (3, 9)], [(0, 1), (0, 2), (1, 2), (1, 3)])
PATH_PAPER = ([(1, 0), (3, 2), (4, 0), (9, 2)], [(1, 3, 4), (4, 9, 2)])
EVEN_TIE = ([(0, 1), (1, 1)], [(0, 1)])

NO_STEPS = ANYTHING + [
    ("lone",), ("lone", 1, 3), ("lone", None), ("lone", [1]), ("lone", {}), ("lone", "1"), ("lone", True),
    ("near",), ("near", 3, 1), ("near", 0), ("near", []), ("leaf",), ("leaf", 1, 3), ("leaf", "9"), ("leaf", [9]),
    ("over",), ("over", 1), ("over", 1, 3, 4), ("over", [1], 3), ("over", 1, {}), ("over", True, 3), ("over", 1, None),
    ("twins",), ("twins", 1), ("twins", 1, 4, 9), ("twins", {}, 1), ("twins", 1, []), ("fold",), ("fold", 3, 4),
    ("fold", None), ("fold", [3]), ("halves",), ("halves", None), ("halves", 1), ("halves", []), ("halves", ([], [])),
    ("halves", PATH_PAPER, 1), ("halves",) + PATH_PAPER, ("Lone", 1), ("", 1), ("split", 3), ("bound", []),
    (1, "lone"), (None, 1), (["near"], 9), ({}, 3), (("near",), 9), "lone", ["near", 9], [("near", 9)],
]


class StepsCase(unittest.TestCase):
    def told(self, web, step, small, added):
        self.assertIs(fits(web, step), True, (web, step))
        self.assertTrue(alike(after(web, step), (small, added)), (web, step, after(web, step)))

    def misses(self, web, step):
        self.assertIs(fits(web, step), False, (web, step))
        self.assertEqual(refusal(after, web, step), (NoStep, {"at": 0}))


class TestWords(StepsCase):
    def test_lone(self):
        self.told(([(4, 3)], []), ("lone", 4), ([], []), 0)
        self.told(SCATTERED, ("lone", 7), less_places(SCATTERED, [7]), 0)
        for place in (0, 2, 5, 8, 999, 1, 3):
            self.misses(SCATTERED, ("lone", place))

    def test_near(self):
        self.told(STAR, ("near", 0), ([], []), 6)
        self.misses(repriced(STAR, 0, 5), ("near", 0))
        self.told(repriced(STAR, 0, 7), ("near", 0), ([], []), 6)
        self.misses(STAR, ("near", 1))
        self.misses(SCATTERED, ("near", 7))
        self.told(PATH, ("near", 1), less_places(PATH, [1, 3]), 2)
        self.told(PATH, ("near", 4), ([(1, 5)], []), 3)
        self.misses(repriced(PATH, 4, 2), ("near", 4))
        self.told(repriced(PATH, 4, 3), ("near", 4), ([(1, 5)], []), 3)
        self.misses(PATH, ("near", 9))
        self.told(([(0, 2), (1, 2)], [(0, 1)]), ("near", 1), ([], []), 2)

    def test_near_where_those_near_are_tied(self):
        web = ([(0, 3), (1, 1), (2, 2), (3, 9)], [(0, 1), (0, 2), (1, 2), (2, 3)])
        self.told(web, ("near", 0), ([(3, 9)], []), 3)
        self.misses(repriced(web, 0, 2), ("near", 0))

    def test_leaf(self):
        self.told(STAR, ("leaf", 1), ([(0, 5), (2, 2), (3, 3)], [(0, 2), (0, 3)]), 1)
        self.told(repriced(STAR, 1, 5), ("leaf", 1), ([(0, 1), (2, 2), (3, 3)], [(0, 2), (0, 3)]), 5)
        self.misses(repriced(STAR, 1, 6), ("leaf", 1))
        self.misses(repriced(STAR, 1, 7), ("leaf", 1))
        self.misses(STAR, ("leaf", 0))
        self.misses(SCATTERED, ("leaf", 7))
        self.misses(([(0, 2), (1, 2)], [(0, 1)]), ("leaf", 0))
        self.misses(([(0, 1), (1, 5), (2, 5)], [(0, 1), (0, 2)]), ("leaf", 0))
        self.told(PATH, ("leaf", 9), ([(1, 5), (3, 2), (4, 6)], [(1, 3), (3, 4)]), 1)

    def test_over(self):
        self.told(TRIANGLE, ("over", 2, 0), less_places(TRIANGLE, [0]), 3)
        self.told(TRIANGLE, ("over", 2, 1), less_places(TRIANGLE, [1]), 4)
        self.misses(TRIANGLE, ("over", 0, 1))
        alike_prices = repriced(TRIANGLE, 1, 3)
        self.told(alike_prices, ("over", 0, 1), less_places(alike_prices, [1]), 3)
        self.told(alike_prices, ("over", 1, 0), less_places(alike_prices, [0]), 3)
        self.misses(repriced(TRIANGLE, 1, 2), ("over", 1, 0))
        # Near 0 are 1 and 2, near 1 are 0, 2 and 3: 1 is over 0, and 0 not over 1.
        self.told(KITE, ("over", 0, 1), less_places(KITE, [1]), 5)
        self.misses(KITE, ("over", 1, 0))
        self.misses(repriced(KITE, 1, 6), ("over", 0, 1))
        self.told(repriced(KITE, 1, 4), ("over", 0, 1), less_places(KITE, [1]), 4)
        self.misses(KITE, ("over", 0, 3))
        self.misses(KITE, ("over", 0, 0))
        self.misses(SQUARE, ("over", 2, 0))
        self.misses(STAR, ("over", 3, 0))
        self.told(repriced(STAR, 0, 3), ("over", 3, 0), less_places(STAR, [0]), 3)
        self.misses(repriced(STAR, 0, 3), ("over", 0, 3))

    def test_twins(self):
        self.told(SQUARE, ("twins", 0, 2), ([(0, 8), (1, 4), (3, 6)], [(0, 1), (0, 3)]), 0)
        self.told(SQUARE, ("twins", 2, 0), ([(1, 4), (2, 8), (3, 6)], [(1, 2), (2, 3)]), 0)
        self.told(SQUARE, ("twins", 1, 3), ([(0, 3), (1, 10), (2, 5)], [(0, 1), (1, 2)]), 0)
        self.misses(SQUARE, ("twins", 0, 0))
        self.misses(SQUARE, ("twins", 0, 1))
        self.misses(TRIANGLE, ("twins", 0, 1))
        self.misses(([(0, 1), (1, 1)], []), ("twins", 0, 1))
        self.misses(([(0, 1), (1, 1)], [(0, 1)]), ("twins", 0, 1))
        more = (SQUARE[0] + [(4, 1)], [(0, 1), (0, 3), (0, 4), (1, 2), (2, 3)])
        self.misses(more, ("twins", 0, 2))
        self.misses(more, ("twins", 2, 0))
        self.told(more, ("twins", 1, 3), ([(0, 3), (1, 10), (2, 5), (4, 1)], [(0, 1), (0, 4), (1, 2)]), 0)
        self.told(STAR, ("twins", 3, 1), ([(0, 6), (2, 2), (3, 4)], [(0, 2), (0, 3)]), 0)

    def test_fold(self):
        small = ([(1, 7), (5, 2), (9, 6)], [(1, 5), (1, 9), (5, 9)])
        self.told(FOLDED, ("fold", 5), small, 5)
        self.told(repriced(FOLDED, 5, 6), ("fold", 5), repriced(small, 5, 1), 6)
        self.misses(repriced(FOLDED, 5, 7), ("fold", 5))
        self.misses(repriced(FOLDED, 5, 8), ("fold", 5))
        self.told(repriced(FOLDED, 5, 4), ("fold", 5), repriced(small, 5, 3), 4)
        self.misses(repriced(FOLDED, 5, 3), ("fold", 5))
        self.misses((FOLDED[0], sorted(FOLDED[1] + [(2, 8)])), ("fold", 5))
        for place in (1, 2, 8, 9):
            self.misses(FOLDED, ("fold", place))

    def test_fold_of_three(self):
        web = ([(0, 5), (1, 2), (2, 3), (3, 2), (4, 9)], [(0, 1), (0, 2), (0, 3), (1, 4), (3, 4)])
        self.told(web, ("fold", 0), ([(0, 2), (4, 9)], [(0, 4)]), 5)
        self.misses(repriced(web, 0, 4), ("fold", 0))
        self.told(repriced(web, 0, 6), ("fold", 0), ([(0, 1), (4, 9)], [(0, 4)]), 6)
        self.misses(repriced(web, 0, 7), ("fold", 0))
        for pair in ((1, 2), (1, 3), (2, 3)):
            self.misses((web[0], sorted(web[1] + [pair])), ("fold", 0))

    def test_fold_of_one_near_or_none(self):
        self.misses(([(0, 1), (1, 2)], [(0, 1)]), ("fold", 0))
        self.misses(([(0, 2), (1, 1)], [(0, 1)]), ("fold", 0))
        self.misses(([(0, 2)], []), ("fold", 0))

    def test_fold_with_nothing_beyond(self):
        self.told(([(0, 2), (1, 3), (2, 2)], [(0, 1), (1, 2)]), ("fold", 1), ([(1, 1)], []), 3)

    def test_fold_keeps_ties_sorted_and_each_once(self):
        web = ([(0, 9), (3, 4), (5, 4), (6, 5), (9, 9)], [(0, 3), (0, 5), (3, 6), (3, 9), (5, 6), (5, 9)])
        self.told(web, ("fold", 6), ([(0, 9), (6, 3), (9, 9)], [(0, 6), (6, 9)]), 5)

    def test_halves(self):
        self.told(PATH, ("halves", PATH_PAPER), ([], []), 3)
        web = ([(0, 3), (1, 2), (2, 4), (3, 4), (4, 4)], [(0, 1), (1, 2), (2, 3), (2, 4), (3, 4)])
        paper = ([(0, 0), (1, 2), (2, 1), (3, 1), (4, 1)], [(0, 1, 4), (2, 3, 4), (2, 4, 4), (3, 4, 4)])
        self.told(web, ("halves", paper), ([(2, 4), (3, 4), (4, 4)], [(2, 3), (2, 4), (3, 4)]), 2)
        self.told(([(4, 3)], []), ("halves", ([(4, 0)], [])), ([], []), 0)

    def test_halves_that_are_all_halves(self):
        self.misses(EVEN_TIE, ("halves", ([(0, 1), (1, 1)], [(0, 1, 2)])))
        self.told(EVEN_TIE, ("halves", ([(0, 2), (1, 0)], [(0, 1, 2)])), ([], []), 1)
        self.told(EVEN_TIE, ("halves", ([(0, 0), (1, 2)], [(0, 1, 2)])), ([], []), 1)
        self.misses(TRIANGLE, ("halves", halves_of(TRIANGLE)))
        self.misses(EMPTY, ("halves", ([], [])))

    def test_halves_that_are_spoilt(self):
        for paper in spoilt(PATH_PAPER):
            step = ("halves", paper)
            self.assertIs(fits(PATH, step), paper_reads(PATH, paper) and any(h != 1 for _, h in paper[0]))
        self.misses(PATH, ("halves", (PATH_PAPER[0], [(1, 3, 4), (4, 9, 1)])))
        self.misses(PATH, ("halves", (PATH_PAPER[0], [(1, 3, 4), (4, 9, 3)])))


class TestAnything(StepsCase):
    def test_what_is_no_step(self):
        for thing in NO_STEPS:
            self.misses(PATH, thing)
            for ask in (back, forth):
                self.assertEqual(refusal(ask, PATH, thing, [3, 4]), (NoStep, {"at": 0}))
            self.assertIs(fits(EMPTY, thing), False)

    def test_truths_as_places(self):
        web = ([(0, 1), (1, 9), (2, 9), (3, 9)], [(1, 2), (1, 3), (2, 3)])
        self.assertIs(fits(web, ("lone", 0)), True)
        self.misses(web, ("lone", False))
        self.assertIs(fits(web, ("over", 2, 1)), True)
        self.misses(web, ("over", 2, True))
        self.misses(web, ("over", True, 2))
        self.misses(SQUARE, ("twins", False, 2))
        self.misses(SQUARE, ("twins", 3, True))
        self.misses(([(0, 2), (1, 3), (2, 2)], [(0, 1), (1, 2)]), ("fold", True))
        self.misses(STAR, ("near", False))
        self.misses(STAR, ("leaf", True))

    def test_missed_by_one_thing(self):
        rng = random.Random(61)
        webs = [STAR, SQUARE, KITE, FOLDED, PATH] + [chance_web(rng, many=rng.randrange(2, 6)) for _ in range(10)]
        for web in webs:
            steps = [step for step in step_tries(web) if fits(web, step)][:12] + [("halves", halves_of(web))]
            for step in steps:
                for thing in spoilt(step):
                    self.assertIs(fits(web, thing), step_reads(web, thing) is not None, (web, thing))

    def test_no_web_goes_ahead(self):
        for thing in NO_WEBS:
            for step in (("lone", 1), None, ("halves", ([], []))):
                for given in ((fits, step), (after, step), (back, step, None), (forth, step, [1])):
                    self.assertEqual(refusal(given[0], thing, *given[1:])[0], NoWeb)

    def test_no_step_goes_ahead_of_no_set(self):
        for some in ANYTHING:
            for ask in (back, forth):
                self.assertEqual(refusal(ask, PATH, ("lone", 1), some), (NoStep, {"at": 0}))


class TestByReading(StepsCase):
    def test_all_tuples_of_words_and_places(self):
        rng = random.Random(62)
        met = dict.fromkeys(("lone", "near", "leaf", "over", "twins", "fold"), 0)
        for _ in range(500):
            web = chance_web(rng, many=rng.randrange(0, 8), most_price=rng.choice([1, 2, 4, 9]))
            for step in step_tries(web):
                read = step_reads(web, step)
                if read is None:
                    self.misses(web, step)
                else:
                    met[step[0]] += 1
                    self.told(web, step, *read)
                    self.assertIsNone(look_at_web(after(web, step)[0]))
        self.assertGreater(min(met.values()), 30)

    def test_all_cheapest_halves(self):
        rng = random.Random(63)
        for _ in range(150):
            web = chance_web(rng, many=rng.randrange(0, 6), most_price=rng.choice([1, 2, 5]))
            dues = halves_of(web)[1]
            for row in cheapest_halves(web):
                step = ("halves", (list(row.items()), dues))
                read = step_reads(web, step)
                if read is None:
                    self.misses(web, step)
                else:
                    self.told(web, step, *read)

    def test_webs_of_forty_places(self):
        rng = random.Random(64)
        for _ in range(4):
            web = chance_web(rng, many=40, most_price=rng.choice([1, 9]), density=rng.choice([0.04, 0.08, 0.15]))
            for step in step_tries(web):
                read = step_reads(web, step) if len(step) == 2 or rng.random() < 0.1 else None
                if read is not None:
                    self.told(web, step, *read)


def read_back(web, step, some):
    nears, word, v, got = nears_of(web), step[0], step[-1], set(some)
    if word == "near":
        got |= nears[v]
    if word == "over" or word == "leaf" and not nears[v] & got or word == "twins" and step[1] in got:
        got.add(v)
    if word == "fold":
        got = got - {v} | nears[v] if v in got else got | {v}
    if word == "halves":
        got |= {place for place, h in v[0] if h == 2}
    return sorted(got)


def read_forth(web, step, some):
    word, v = step[0], step[-1]
    got = set(some) & {place for place, _ in step_reads(web, step)[0][0]}
    if word == "twins" and not set(step[1:]) <= set(some):
        got -= {step[1]}
    if word == "over" and v not in some:
        got -= {step[1]}
    if word == "fold":
        got = got | {v} if nears_of(web)[v] & set(some) else got - {v}
    return sorted(got)


def steps_of(web):
    dues = halves_of(web)[1]
    tries = list(step_tries(web)) + [("halves", (list(row.items()), dues)) for row in cheapest_halves(web)]
    return [step for step in tries if fits(web, step)]


class TestBackAndForth(StepsCase):
    def test_back(self):
        self.assertTrue(alike(back(SCATTERED, ("lone", 7), [8, 999]), [8, 999]))
        self.assertTrue(alike(back(PATH, ("near", 1), [4]), [3, 4]))
        self.assertTrue(alike(back(PATH, ("leaf", 9), [3]), [3, 9]))
        self.assertTrue(alike(back(PATH, ("leaf", 9), [1, 4]), [1, 4]))
        self.assertTrue(alike(back(TRIANGLE, ("over", 2, 0), [1]), [0, 1]))
        self.assertTrue(alike(back(SQUARE, ("twins", 0, 2), [0]), [0, 2]))
        self.assertTrue(alike(back(SQUARE, ("twins", 0, 2), [1, 3]), [1, 3]))
        self.assertTrue(alike(back(FOLDED, ("fold", 5), [5, 9]), [2, 8, 9]))
        self.assertTrue(alike(back(FOLDED, ("fold", 5), [1, 9]), [1, 5, 9]))
        self.assertTrue(alike(back(PATH, ("halves", PATH_PAPER), []), [3, 9]))

    def test_forth(self):
        self.assertTrue(alike(forth(SCATTERED, ("lone", 7), [7, 8, 999]), [8, 999]))
        self.assertTrue(alike(forth(PATH, ("near", 1), [1, 3, 4]), [4]))
        self.assertTrue(alike(forth(PATH, ("leaf", 9), [3, 9]), [3]))
        self.assertTrue(alike(forth(PATH, ("leaf", 9), [1, 4]), [1, 4]))
        self.assertTrue(alike(forth(TRIANGLE, ("over", 2, 0), [0, 1]), [1]))
        self.assertTrue(alike(forth(TRIANGLE, ("over", 2, 0), [0, 2]), [2]))
        self.assertTrue(alike(forth(TRIANGLE, ("over", 2, 0), [1, 2]), [1]))
        self.assertTrue(alike(forth(SQUARE, ("twins", 0, 2), [0, 2]), [0]))
        self.assertTrue(alike(forth(SQUARE, ("twins", 0, 2), [0, 1, 3]), [1, 3]))
        self.assertTrue(alike(forth(SQUARE, ("twins", 0, 2), [1, 2, 3]), [1, 3]))
        self.assertTrue(alike(forth(SQUARE, ("twins", 0, 2), [1, 3]), [1, 3]))
        self.assertTrue(alike(forth(FOLDED, ("fold", 5), [1, 2, 8, 9]), [1, 5, 9]))
        self.assertTrue(alike(forth(FOLDED, ("fold", 5), [2, 8, 9]), [5, 9]))
        self.assertTrue(alike(forth(FOLDED, ("fold", 5), [2, 5, 9]), [5, 9]))
        self.assertTrue(alike(forth(FOLDED, ("fold", 5), [1, 5, 9]), [1, 9]))
        self.assertTrue(alike(forth(PATH, ("halves", PATH_PAPER), [1, 3, 9]), []))

    def test_each_touching_set_goes_back_and_forth(self):
        rng = random.Random(65)
        met = {}
        for _ in range(150):
            web = chance_web(rng, many=rng.randrange(1, 6), most_price=rng.choice([1, 2, 4, 9]))
            sets = touching_sets(web)
            for step in steps_of(web):
                met[step[0]] = met.get(step[0], 0) + 1
                small, added = after(web, step)
                for some in touching_sets(small):
                    got = back(web, step, some)
                    self.assertTrue(alike(got, read_back(web, step, some)), (web, step, some))
                    self.assertTrue(is_set(web, got) and touches(web, got))
                    self.assertEqual(cost(web, got), cost(small, some) + added)
                for some in sets:
                    got = forth(web, step, some)
                    self.assertTrue(alike(got, read_forth(web, step, some)), (web, step, some))
                    self.assertTrue(is_set(small, got) and touches(small, got))
                    self.assertLessEqual(cost(small, got) + added, cost(web, some))
                self.assertEqual(least_cost(web), least_cost(small) + added)
        self.assertEqual(len(met), 7)
        self.assertGreater(min(met.values()), 8)

    def test_what_is_no_touching_set(self):
        for some in ANYTHING + [[9, 4], [4, 4], (3, 4), [3, True], [2], [3, 4, 1000], ["3", "4"], [[3], 4], [3], [4]]:
            self.assertEqual(refusal(forth, PATH, ("near", 1), some), (NoSet, {}), some)
        for some in ANYTHING + [[9, 4], [4, 4], (4,), [3, 4], [1, 4], [True], [3], ["4"], [[4]]]:
            self.assertEqual(refusal(back, PATH, ("near", 1), some), (NoSet, {}), some)
        for step in (("lone", 7), ("near", 8), ("leaf", 0)):
            for some in ([], [0], [8], [0, 5], [2, 8, 1000], None, [2, 2, 8], [8, 2], [1, 2, 8]):
                self.assertEqual(refusal(forth, SCATTERED, step, some)[0], NoSet)

    def test_all_that_is_no_touching_set_of_small_webs(self):
        rng = random.Random(66)
        for _ in range(40):
            web = chance_web(rng, many=rng.randrange(1, 5), density=0.7)
            numbers = [place for place, _ in web[0]]
            for step in steps_of(web):
                small = after(web, step)[0]
                for some in ([], numbers[:1], numbers[1:], numbers, numbers[::-1], numbers[:2]):
                    for ask, where in ((back, small), (forth, web)):
                        fine = is_set(where, some) and touches(where, some)
                        self.assertEqual(refusal(ask, web, step, some), None if fine else (NoSet, {}))


if __name__ == "__main__":
    unittest.main()
