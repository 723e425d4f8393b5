import itertools
import unittest

from tests.helping import (ANYTHING, EMPTY, NO_WEBS, OTHER, PATH, SCATTERED, TRIANGLE, alike, chance_webs,
                           copied, full_ties, line_of)
from touchall.errors import NoPlace, NoWeb
from touchall.webs import look_at_web, near, places_of, price_of

GREAT = 10 ** 12


class WebCase(unittest.TestCase):
    def stands(self, web):
        self.assertIsNone(look_at_web(web))

    def refused(self, thing, part, number):
        with self.assertRaises(NoWeb) as caught:
            look_at_web(thing)
        self.assertTrue(alike((caught.exception.part, caught.exception.number), (part, number)),
                        (thing, caught.exception.part, caught.exception.number))


class TestWhole(WebCase):
    def test_ordinary_webs(self):
        for web in (EMPTY, PATH, TRIANGLE, SCATTERED, ([(7, 1)], [])):
            self.stands(web)
        for web in chance_webs(200):
            self.stands(web)

    def test_no_tuple_of_two(self):
        for thing in NO_WEBS:
            if not (isinstance(thing, tuple) and len(thing) == 2):
                self.refused(thing, "web", None)
        self.refused([[], []], "web", None)
        self.refused(([(1, 1)], [], []), "web", None)

    def test_places_go_ahead_of_ties(self):
        self.refused((None, None), "places", None)
        self.refused(([(1, 1), (1, 1)], None), "places", 1)
        self.refused(([(1, 1)], None), "ties", None)
        self.refused(([(1, 0)], [(1, 1)]), "places", 0)


class TestPlaces(WebCase):
    def test_no_list(self):
        for thing in ANYTHING:
            if not isinstance(thing, list):
                self.refused((thing, []), "places", None)
        self.refused((((1, 1),), []), "places", None)

    def test_how_many(self):
        self.stands(([(k, 1) for k in range(40)], []))
        self.refused(([(k, 1) for k in range(41)], []), "places", None)
        self.refused(([None] + [(k, 1) for k in range(40)], []), "places", None)
        self.refused(([(k, 1) for k in range(39)] + [None], []), "places", 39)

    def test_things_that_are_no_place(self):
        for thing in ANYTHING:
            if thing != (1, 2):
                self.refused(([thing], []), "places", 0)
                self.refused(([(0, 1), thing, None], []), "places", 1)
        for thing in ([0, 1], (0, 1, 1), (0,), ((0, 1),)):
            self.refused(([thing], []), "places", 0)

    def test_numbers(self):
        self.stands(([(0, 1), (999, 1)], []))
        self.refused(([(-1, 1)], []), "places", 0)
        self.refused(([(0, 1), (1000, 1)], []), "places", 1)
        for thing in ANYTHING:
            if not (isinstance(thing, int) and not isinstance(thing, bool)):
                self.refused(([(thing, 1)], []), "places", 0)
                self.refused(([(1, thing)], []), "places", 0)

    def test_truths_are_no_numbers(self):
        for pair in ((True, 1), (False, 1), (1, True), (0, True)):
            self.refused(([pair], []), "places", 0)

    def test_rising(self):
        self.refused(([(1, 1), (1, 2)], []), "places", 1)
        self.refused(([(0, 1), (5, 1), (4, 1), (3, 1)], []), "places", 2)
        self.stands(([(0, 1), (500, 1), (501, 1)], []))

    def test_prices(self):
        self.stands(([(0, 1)], []))
        self.refused(([(0, 0)], []), "places", 0)
        self.refused(([(0, 1), (1, -1)], []), "places", 1)

    def test_prices_together(self):
        self.stands(([(0, GREAT)], []))
        self.refused(([(0, GREAT + 1)], []), "places", 0)
        self.stands(([(0, GREAT - 2), (1, 1), (2, 1)], []))
        self.refused(([(0, GREAT - 2), (1, 1), (2, 2), (3, 1)], []), "places", 2)
        self.refused(([(0, 10 ** 59)], []), "places", 0)

    def test_the_first_of_several(self):
        self.refused(([(0, 1), (0, 1), (1000, 1), None], [None]), "places", 1)
        self.refused(([(3, GREAT), (2, 1)], []), "places", 1)


class TestTies(WebCase):
    def test_no_list(self):
        for thing in ANYTHING:
            if not isinstance(thing, list):
                self.refused(([(1, 1), (2, 1)], thing), "ties", None)
        self.refused(([(1, 1), (2, 1)], ((1, 2),)), "ties", None)

    def test_how_many(self):
        places = [(k, 1) for k in range(20)]
        self.stands((places, full_ties(20, 120)))
        self.refused((places, full_ties(20, 121)), "ties", None)
        self.refused((places, [None] + full_ties(20, 120)), "ties", None)
        self.refused((places, full_ties(20, 119) + [None]), "ties", 119)

    def test_things_that_are_no_tie(self):
        places = [(0, 1), (1, 1), (2, 1)]
        for thing in ANYTHING:
            if thing != (1, 2):
                self.refused((places, [thing]), "ties", 0)
                self.refused((places, [(0, 1), thing, None]), "ties", 1)
        for thing in ([0, 1], (0, 1, 2), (0,), ((0, 1),)):
            self.refused((places, [thing]), "ties", 0)

    def test_ends_of_any_kind(self):
        places = [(0, 1), (1, 1), (2, 1)]
        for thing in ANYTHING:
            if isinstance(thing, bool) or not isinstance(thing, int):
                self.refused((places, [(thing, 2)]), "ties", 0)
                self.refused((places, [(0, thing)]), "ties", 0)

    def test_ends_that_are_not_there(self):
        places = [(2, 1), (4, 1)]
        self.refused((places, [(2, 3)]), "ties", 0)
        self.refused((places, [(3, 4)]), "ties", 0)
        self.refused((places, [(2, 4), (4, 5)]), "ties", 1)
        self.refused(([], [(1, 2)]), "ties", 0)

    def test_turned_about_and_to_itself(self):
        places = [(2, 1), (4, 1)]
        self.refused((places, [(4, 2)]), "ties", 0)
        self.refused((places, [(2, 2)]), "ties", 0)
        self.refused((places, [(2, 4), (4, 2)]), "ties", 1)
        self.refused((places, [(2, 4), (4, 4)]), "ties", 1)

    def test_sorted_and_unlike(self):
        places = [(0, 1), (1, 1), (2, 1)]
        self.stands((places, [(0, 1), (0, 2), (1, 2)]))
        for order in itertools.permutations([(0, 1), (0, 2), (1, 2)]):
            wrong = [k for k in (1, 2) if order[k] < order[k - 1]]
            if wrong:
                self.refused((places, list(order)), "ties", wrong[0])
        self.refused((places, [(0, 1), (0, 1)]), "ties", 1)
        self.refused((places, [(0, 1), (0, 2), (0, 2), None]), "ties", 2)


class TestAsking(unittest.TestCase):
    def test_places(self):
        self.assertEqual(places_of(EMPTY), [])
        self.assertEqual(places_of(PATH), [1, 3, 4, 9])
        self.assertEqual(places_of(line_of(40)), list(range(40)))

    def test_prices(self):
        for web in (PATH, SCATTERED, TRIANGLE):
            for place, price in web[0]:
                self.assertTrue(alike(price_of(web, place), price))

    def test_near(self):
        self.assertEqual(near(PATH, 1), [3])
        self.assertEqual(near(PATH, 3), [1, 4])
        self.assertEqual(near(PATH, 9), [4])
        self.assertEqual(near(SCATTERED, 7), [])
        self.assertEqual(near(SCATTERED, 8), [0, 5])
        star = ([(k, 1) for k in range(40)], sorted((min(k, 20), max(k, 20)) for k in range(40) if k != 20))
        self.assertEqual(near(star, 20), [k for k in range(40) if k != 20])

    def test_near_by_chance(self):
        for web in chance_webs(100):
            for place in places_of(web):
                told = [other for other in places_of(web)
                        if (place, other) in web[1] or (other, place) in web[1]]
                self.assertEqual(near(web, place), told)

    def test_no_place(self):
        for ask in (price_of, near):
            for web in (EMPTY, PATH, TRIANGLE, SCATTERED):
                has = places_of(web)
                for thing in ANYTHING + [5000, -5, (1,), [3]]:
                    if isinstance(thing, int) and not isinstance(thing, bool) and thing in has:
                        continue
                    given = thing if thing is OTHER else copied(thing)
                    with self.assertRaises(NoPlace) as caught:
                        ask(web, given)
                    self.assertTrue(alike(caught.exception.place, thing))

    def test_truths_are_no_places(self):
        for ask in (price_of, near):
            for truth in (True, False):
                with self.assertRaises(NoPlace) as caught:
                    ask(TRIANGLE, truth)
                self.assertIs(caught.exception.place, truth)

    def test_no_web_goes_ahead(self):
        for thing in NO_WEBS:
            for ask in (places_of, lambda web: price_of(web, None), lambda web: near(web, None)):
                with self.assertRaises(NoWeb):
                    ask(thing)

    def test_the_web_is_looked_at_to_its_end(self):
        for ask in (places_of, lambda web: price_of(web, 1), lambda web: near(web, 1)):
            with self.assertRaises(NoWeb) as caught:
                ask(([(1, 1), (2, 1)], [(1, 2), (1, 2)]))
            self.assertEqual((caught.exception.part, caught.exception.number), ("ties", 1))


if __name__ == "__main__":
    unittest.main()
