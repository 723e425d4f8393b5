import itertools
import unittest

from tests.helping import (ANYTHING, EMPTY, NO_WEBS, PATH, SCATTERED, TRIANGLE, all_sets, chance_webs, copied,
                           cost, line_of, touches)
from touchall.errors import NoSet, NoWeb
from touchall.sets import cost_of, is_set, lean, left_by, needless

TAKES_A_SET = (left_by, cost_of, needless, lean)
NO_SETS_OF_PATH = [thing for thing in ANYTHING if thing not in ([], [1])] + [
    [True], [1, 1], [3, 1], [1, 3, 3], [1, 2], [1, 4, 3, 9], [0], [1000], [-1], (1, 3), {1: True}, "13",
    [1, None], [1, "3"], [1, [3]], [[1], 3], [1, {}], [1, 10 ** 59], [1, 3, 4, 9, 9], [False, 1]]


class TestIsSet(unittest.TestCase):
    def test_all_that_are(self):
        for web in (EMPTY, PATH, TRIANGLE, SCATTERED):
            for some in all_sets(web):
                self.assertIs(is_set(web, some), True)
        self.assertIs(is_set(line_of(40), list(range(40))), True)

    def test_all_that_are_not(self):
        for thing in NO_SETS_OF_PATH:
            self.assertIs(is_set(PATH, thing), False, thing)

    def test_only_rising_orders(self):
        for order in itertools.permutations([1, 3, 4, 9]):
            self.assertIs(is_set(PATH, list(order)), list(order) == [1, 3, 4, 9])

    def test_truths_are_no_places(self):
        self.assertIs(is_set(TRIANGLE, [0, True]), False)
        self.assertIs(is_set(TRIANGLE, [False, 1]), False)
        self.assertIs(is_set(TRIANGLE, [0, 1]), True)

    def test_a_web_without_places_has_the_empty_set_alone(self):
        for thing in ANYTHING:
            self.assertIs(is_set(EMPTY, thing), isinstance(thing, list) and thing == [])


class TestRefused(unittest.TestCase):
    def test_no_set(self):
        for ask in TAKES_A_SET:
            for thing in NO_SETS_OF_PATH:
                with self.assertRaises(NoSet):
                    ask(PATH, thing)

    def test_no_web_goes_ahead(self):
        for ask in TAKES_A_SET + (is_set,):
            for thing in NO_WEBS:
                for some in ([], None, [5, 5]):
                    with self.assertRaises(NoWeb):
                        ask(thing, some)


class TestLeft(unittest.TestCase):
    def test_ordinary(self):
        self.assertEqual(left_by(PATH, []), PATH[1])
        self.assertEqual(left_by(PATH, [3]), [(4, 9)])
        self.assertEqual(left_by(PATH, [1, 9]), [(3, 4)])
        self.assertEqual(left_by(PATH, [3, 4]), [])
        self.assertEqual(left_by(EMPTY, []), [])
        self.assertEqual(left_by(SCATTERED, [7]), SCATTERED[1])

    def test_by_chance(self):
        for web in chance_webs(60):
            for some in all_sets(web):
                told = left_by(web, some)
                self.assertEqual(told, [tie for tie in web[1] if tie[0] not in some and tie[1] not in some])
                self.assertEqual(told == [], touches(web, some))


class TestCost(unittest.TestCase):
    def test_ordinary(self):
        self.assertEqual(cost_of(PATH, []), 0)
        self.assertEqual(cost_of(PATH, [3, 4]), 9)
        self.assertEqual(cost_of(PATH, [1, 3, 4, 9]), 15)
        self.assertEqual(cost_of(([(0, 10 ** 12 - 1), (1, 1)], []), [0, 1]), 10 ** 12)

    def test_by_chance(self):
        for web in chance_webs(60):
            for some in all_sets(web):
                self.assertEqual(cost_of(web, some), cost(web, some))


class TestNeedless(unittest.TestCase):
    def test_ordinary(self):
        self.assertEqual(needless(PATH, []), [])
        self.assertEqual(needless(PATH, [3, 4]), [])
        self.assertEqual(needless(PATH, [1, 3, 4]), [1, 3])
        self.assertEqual(needless(PATH, [1, 3, 4, 9]), [1, 3, 4, 9])
        self.assertEqual(needless(TRIANGLE, [0, 1]), [])

    def test_nothing_near(self):
        self.assertEqual(needless(SCATTERED, [7]), [7])
        self.assertEqual(needless(([(5, 6)], []), [5]), [5])

    def test_a_set_that_leaves_ties(self):
        self.assertEqual(needless(PATH, [1, 3]), [1])
        self.assertEqual(needless(PATH, [9]), [])

    def test_by_chance(self):
        for web in chance_webs(60):
            for some in all_sets(web):
                told = [place for place in some
                        if left_by(web, [p for p in some if p != place]) == left_by(web, some)]
                self.assertEqual(needless(web, some), told)


class TestLean(unittest.TestCase):
    def test_the_dearest_goes_first(self):
        self.assertEqual(lean(PATH, [1, 3, 4, 9]), [3, 9])
        self.assertEqual(lean(([(0, 1), (1, 9)], [(0, 1)]), [0, 1]), [0])
        self.assertEqual(lean(([(0, 9), (1, 1)], [(0, 1)]), [0, 1]), [1])

    def test_of_alike_prices_the_greater_number_first(self):
        self.assertEqual(lean(([(0, 4), (1, 4)], [(0, 1)]), [0, 1]), [0])
        self.assertEqual(lean(line_of(5), [0, 1, 2, 3, 4]), [1, 3])
        self.assertEqual(lean(line_of(4), [0, 1, 2, 3]), [0, 2])
        self.assertEqual(lean(([(0, 2), (1, 2), (2, 2)], TRIANGLE[1]), [0, 1, 2]), [0, 1])

    def test_edges(self):
        self.assertEqual(lean(EMPTY, []), [])
        self.assertEqual(lean(PATH, []), [])
        self.assertEqual(lean(SCATTERED, [7]), [])
        self.assertEqual(lean(PATH, [3, 4]), [3, 4])

    def test_a_set_that_leaves_ties(self):
        self.assertEqual(lean(PATH, [1, 3]), [3])
        self.assertEqual(lean(PATH, [1]), [1])

    def test_by_chance(self):
        for web in chance_webs(100):
            for some in all_sets(web):
                left = copied(some)
                for place in sorted(some, key=lambda p: (-dict(web[0])[p], -p)):
                    if place in needless(web, left):
                        left.remove(place)
                self.assertEqual(lean(web, some), left)
                self.assertEqual(needless(web, left), [])
                self.assertEqual(left_by(web, left), left_by(web, some))


if __name__ == "__main__":
    unittest.main()
