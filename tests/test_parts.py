import unittest

from tests.helping import (ANYTHING, EMPTY, NO_WEBS, OTHER, PATH, SCATTERED, TRIANGLE, alike, chance_webs,
                           copied, full_ties, line_of)
from touchall.errors import NoJoin, NoPlace, NoWeb
from touchall.parts import beside, parts, without
from touchall.webs import look_at_web, places_of

GREAT = 10 ** 12


def moved(web, by):
    return ([(place + by, price) for place, price in web[0]], [(one + by, other + by) for one, other in web[1]])


class TestWithout(unittest.TestCase):
    def test_ordinary(self):
        self.assertEqual(without(PATH, [3]), ([(1, 5), (4, 7), (9, 1)], [(4, 9)]))
        self.assertEqual(without(PATH, [9, 1]), ([(3, 2), (4, 7)], [(3, 4)]))
        self.assertEqual(without(TRIANGLE, [1]), ([(0, 3), (2, 5)], [(0, 2)]))

    def test_edges(self):
        self.assertEqual(without(PATH, []), PATH)
        self.assertEqual(without(PATH, [1, 3, 4, 9]), EMPTY)
        self.assertEqual(without(EMPTY, []), EMPTY)

    def test_more_than_once(self):
        self.assertEqual(without(PATH, [4, 4, 3, 4, 3]), ([(1, 5), (9, 1)], []))
        self.assertEqual(without(PATH, [1] * 500), without(PATH, [1]))

    def test_what_is_left_is_a_web(self):
        for web in chance_webs(100):
            some = places_of(web)[::2]
            left = without(web, some)
            self.assertIsNone(look_at_web(left))
            self.assertEqual(left[0], [pair for pair in web[0] if pair[0] not in some])
            self.assertEqual(left[1], [tie for tie in web[1] if tie[0] not in some and tie[1] not in some])

    def test_no_place_tells_the_first(self):
        for thing in ANYTHING + [2, 1000, [3]]:
            if isinstance(thing, int) and not isinstance(thing, bool) and thing in (1, 3, 4, 9):
                continue
            given = thing if thing is OTHER else copied(thing)
            for some in ([given], [1, 1, given], [given, None, "z"], [9, given, given, 7]):
                with self.assertRaises(NoPlace) as caught:
                    without(PATH, some)
                self.assertTrue(alike(caught.exception.place, thing))

    def test_truths_are_no_places(self):
        with self.assertRaises(NoPlace) as caught:
            without(TRIANGLE, [0, 1, True, 5])
        self.assertIs(caught.exception.place, True)
        with self.assertRaises(NoPlace) as caught:
            without(TRIANGLE, [2, False])
        self.assertIs(caught.exception.place, False)

    def test_no_web_goes_ahead(self):
        for thing in NO_WEBS:
            with self.assertRaises(NoWeb):
                without(thing, [None])


class TestParts(unittest.TestCase):
    def test_ordinary(self):
        self.assertEqual(parts(PATH), [PATH])
        self.assertEqual(parts(SCATTERED), [
            ([(0, 1), (5, 3), (8, 9)], [(0, 8), (5, 8)]),
            ([(2, 1), (999, 4)], [(2, 999)]),
            ([(7, 2)], []),
        ])

    def test_edges(self):
        self.assertEqual(parts(EMPTY), [])
        self.assertEqual(parts(([(5, 6)], [])), [([(5, 6)], [])])
        self.assertEqual(parts(([(k, 1) for k in range(40)], [])), [([(k, 1)], []) for k in range(40)])
        self.assertEqual(parts(line_of(40)), [line_of(40)])

    def test_order_of_the_least_places(self):
        web = ([(k, 1) for k in range(6)], [(0, 5), (1, 4), (2, 3)])
        self.assertEqual([places_of(part) for part in parts(web)], [[0, 5], [1, 4], [2, 3]])

    def test_by_chance(self):
        for web in chance_webs(200):
            told = parts(web)
            firsts = [part[0][0][0] for part in told]
            self.assertEqual(firsts, sorted(firsts))
            self.assertEqual(sorted(pair for part in told for pair in part[0]), web[0])
            self.assertEqual(sorted(tie for part in told for tie in part[1]), web[1])
            for part in told:
                self.assertIsNone(look_at_web(part))
                self.assertTrue(hangs_together(part))

    def test_no_web(self):
        for thing in NO_WEBS:
            with self.assertRaises(NoWeb):
                parts(thing)


def hangs_together(web):
    met = {web[0][0][0]}
    for _ in web[0]:
        met |= {end for tie in web[1] if met & set(tie) for end in tie}
    return met == {place for place, _ in web[0]}


class TestBeside(unittest.TestCase):
    def test_ordinary(self):
        one = ([(1, 5), (6, 2)], [(1, 6)])
        other = ([(0, 3), (4, 4), (9, 1)], [(0, 9), (4, 9)])
        both = ([(0, 3), (1, 5), (4, 4), (6, 2), (9, 1)], [(0, 9), (1, 6), (4, 9)])
        self.assertEqual(beside(one, other), both)
        self.assertEqual(beside(other, one), both)

    def test_parts_beside_each_other_are_the_web(self):
        for web in chance_webs(100):
            whole = EMPTY
            for part in reversed(parts(web)):
                whole = beside(part, whole)
            self.assertEqual(whole, web)

    def test_a_web_without_places(self):
        for web in (EMPTY, PATH, SCATTERED):
            self.assertEqual(beside(web, EMPTY), web)
            self.assertEqual(beside(EMPTY, web), web)

    def test_a_place_in_common(self):
        for one, other in ((PATH, PATH), (PATH, TRIANGLE), (PATH, ([(9, 1)], [])), (([(9, 3)], []), PATH)):
            with self.assertRaises(NoJoin):
                beside(one, other)

    def test_too_many_places(self):
        self.assertEqual(beside(line_of(20), moved(line_of(20), 20))[0], line_of(40)[0])
        with self.assertRaises(NoJoin):
            beside(line_of(20), moved(line_of(21), 20))

    def test_too_many_ties(self):
        one = ([(k, 1) for k in range(16)], full_ties(16, 60))
        other = ([(k, 1) for k in range(16)], full_ties(16, 61))
        self.assertEqual(len(beside(one, moved(one, 16))[1]), 120)
        with self.assertRaises(NoJoin):
            beside(one, moved(other, 16))

    def test_too_great_a_price(self):
        self.assertEqual(beside(([(1, GREAT - 1)], []), ([(0, 1)], [])), ([(0, 1), (1, GREAT - 1)], []))
        with self.assertRaises(NoJoin):
            beside(([(1, GREAT - 1)], []), ([(0, 2)], []))

    def test_no_web_goes_ahead_the_first_ones_first(self):
        for thing in NO_WEBS:
            for one, other in ((thing, PATH), (PATH, thing)):
                with self.assertRaises(NoWeb):
                    beside(one, other)
        bad_places = ([(1, 0)], [])
        bad_ties = ([(1, 1)], [(1, 1)])
        for one, other, part in ((bad_places, bad_ties, "places"), (bad_ties, bad_places, "ties")):
            with self.assertRaises(NoWeb) as caught:
                beside(one, other)
            self.assertEqual(caught.exception.part, part)


if __name__ == "__main__":
    unittest.main()
