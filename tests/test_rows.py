import itertools
import random
import unittest

from tests.helping import (ANYTHING, EMPTY, NO_WEBS, PATH, SCATTERED, TRIANGLE, alike, all_sets, chance_rows,
                           chance_web, cost, least_cost, touches)
from touchall.errors import NoRows, NoSet, NoWeb, Overpaid
from touchall.rows import bound_of, look_at_rows, worth_of
from touchall.tight import is_tight

FULL = ([(k, 9) for k in range(6)], list(itertools.combinations(range(6), 2)))
FIVE = ([(1, 2), (2, 2), (4, 2), (7, 2), (9, 2)], [(1, 4), (1, 7), (2, 7), (2, 9), (4, 9)])
WALK = [1, 4, 9, 2, 7]
SEVEN = ([(k, 1) for k in range(7)], sorted([(k, k + 1) for k in range(6)] + [(0, 6)]))
FOUR = ([(k, 5) for k in range(4)], [(0, 1), (0, 3), (1, 2), (2, 3)])


def tight_on_nothing(web, rows):
    return is_tight(web, rows, [])


TAKES_ROWS = (look_at_rows, worth_of, bound_of, tight_on_nothing)


class RowsCase(unittest.TestCase):
    def stands(self, web, rows):
        self.assertIsNone(look_at_rows(web, rows))

    def refused(self, web, thing, number):
        for ask in TAKES_ROWS:
            with self.assertRaises(NoRows) as caught:
                ask(web, thing)
            self.assertTrue(alike(caught.exception.number, number), (thing, caught.exception.number))

    def overpaid(self, web, rows, place):
        for ask in TAKES_ROWS:
            with self.assertRaises(Overpaid) as caught:
                ask(web, rows)
            self.assertTrue(alike(caught.exception.place, place), (rows, caught.exception.place))

    def no_row(self, web, thing):
        self.refused(web, [thing], 0)


class TestAll(RowsCase):
    def test_two_and_many(self):
        for size in range(2, 7):
            for places in itertools.combinations(range(6), size):
                self.stands(FULL, [("all", list(places), 3)])
        self.stands(PATH, [("all", [1, 3], 1), ("all", [3, 4], 2)])

    def test_too_few(self):
        self.no_row(FULL, ("all", [], 1))
        self.no_row(FULL, ("all", [2], 1))

    def test_not_rising(self):
        for order in itertools.permutations([0, 2, 5]):
            if list(order) == [0, 2, 5]:
                self.stands(FULL, [("all", list(order), 1)])
            else:
                self.no_row(FULL, ("all", list(order), 1))
        self.no_row(FULL, ("all", [1, 0], 1))
        self.no_row(FULL, ("all", [1, 1], 1))
        self.no_row(FULL, ("all", [0, 1, 1], 1))

    def test_not_tied(self):
        self.no_row(PATH, ("all", [1, 4], 1))
        self.no_row(PATH, ("all", [1, 3, 4], 1))
        self.no_row(FOUR, ("all", [0, 1, 2, 3], 1))
        nearly = (FULL[0], [tie for tie in FULL[1] if tie != (0, 5)])
        self.no_row(nearly, ("all", [0, 1, 2, 3, 4, 5], 1))
        self.stands(nearly, [("all", [0, 1, 2, 3, 4], 1)])


class TestRing(RowsCase):
    def test_begun_anywhere_and_in_either_direction(self):
        for walk, web in (([0, 1, 2], TRIANGLE), (WALK, FIVE), (list(range(7)), SEVEN)):
            for turn in range(len(walk)):
                ring = walk[turn:] + walk[:turn]
                self.stands(web, [("ring", ring, 1)])
                self.stands(web, [("ring", ring[::-1], 1)])

    def test_even_and_too_short(self):
        self.no_row(FOUR, ("ring", [0, 1, 2, 3], 1))
        self.no_row(FULL, ("ring", [0, 1], 1))
        self.no_row(FULL, ("ring", [0], 1))
        self.no_row(FULL, ("ring", [], 1))
        self.no_row(FULL, ("ring", [0, 1, 2, 3, 4, 5], 1))

    def test_a_place_twice(self):
        self.no_row(FULL, ("ring", [0, 1, 2, 0, 3], 1))
        self.no_row(FULL, ("ring", [0, 1, 0], 1))
        self.no_row(FULL, ("ring", [0, 1, 2, 3, 4, 0, 5], 1))

    def test_not_tied(self):
        self.no_row(PATH, ("ring", [1, 3, 4], 1))
        self.no_row(FIVE, ("ring", sorted(WALK), 1))
        for missing in FIVE[1]:
            web = (FIVE[0], [tie for tie in FIVE[1] if tie != missing])
            self.no_row(web, ("ring", WALK, 1))


class TestWrongRows(RowsCase):
    def test_no_list(self):
        for thing in ANYTHING + [(("all", [0, 1], 1),), {0: ("all", [0, 1], 1)}]:
            if not isinstance(thing, list):
                self.refused(FULL, thing, None)

    def test_things_that_are_no_row(self):
        for thing in ANYTHING + [("all",), ("all", [0, 1]), ("all", [0, 1], 1, 1), ["all", [0, 1], 1]]:
            self.refused(FULL, [thing], 0)
            self.refused(FULL, [("all", [0, 1], 1), ("ring", [0, 1, 2], 1), thing, None], 2)

    def test_words(self):
        for thing in ANYTHING + ["All", "ALL", "all ", " all", "rings", "any", ["all"], ("all",), {"all": 1}]:
            if thing != "all" and thing != "ring":
                self.no_row(FULL, (thing, [0, 1, 2], 1))
        self.stands(FULL, [("all", [0, 1, 2], 1), ("ring", [0, 1, 2], 1)])

    def test_a_word_that_is_equal_to_all_is_no_text(self):
        class Yes:
            def __eq__(self, other):
                return True

        self.no_row(FULL, (Yes(), [0, 1, 2], 1))

    def test_places_of_any_kind(self):
        for word in ("all", "ring"):
            for thing in ANYTHING + [(0, 1, 2), "012", {0: 1, 1: 1, 2: 1}, range(3)]:
                if thing not in ([1, 2],):
                    self.no_row(FULL, (word, thing, 1))

    def test_a_place_of_any_kind(self):
        for thing in ANYTHING + [6, -1]:
            if isinstance(thing, int) and not isinstance(thing, bool) and 0 <= thing <= 5:
                continue
            for word in ("all", "ring"):
                for places in ([thing, 3, 4], [3, thing, 4], [3, 4, thing]):
                    self.no_row(FULL, (word, places, 1))

    def test_truths_as_places(self):
        self.no_row(FULL, ("all", [False, 1], 1))
        self.no_row(FULL, ("all", [0, True], 1))
        self.no_row(FULL, ("ring", [0, True, 2], 1))

    def test_amounts(self):
        self.stands(FULL, [("all", [0, 1], 1)])
        for thing in ANYTHING:
            if not isinstance(thing, int) or isinstance(thing, bool) or thing < 1:
                self.no_row(FULL, ("all", [0, 1], thing))
                self.no_row(FULL, ("ring", [0, 1, 2], thing))

    def test_how_many(self):
        web = ([(0, 100), (1, 101)], [(0, 1)])
        row = ("all", [0, 1], 1)
        self.stands(web, [row] * 200)
        self.refused(web, [row] * 201, None)
        self.refused(web, [None] + [row] * 200, None)
        self.refused(web, [row] * 199 + [None], 199)

    def test_a_web_without_places(self):
        self.stands(EMPTY, [])
        self.refused(EMPTY, [("all", [], 1)], 0)
        self.refused(EMPTY, [("all", [0, 1], 1)], 0)


class TestOverpaid(RowsCase):
    def test_twice_the_price_and_one_more(self):
        self.stands(PATH, [("all", [1, 3], 4)])
        self.overpaid(PATH, [("all", [1, 3], 5)], 3)
        self.stands(PATH, [("all", [1, 3], 2), ("all", [3, 4], 2)])
        self.overpaid(PATH, [("all", [1, 3], 2), ("all", [3, 4], 3)], 3)
        self.stands(TRIANGLE, [("ring", [2, 1, 0], 6)])
        self.overpaid(TRIANGLE, [("ring", [2, 1, 0], 7)], 0)
        self.overpaid(TRIANGLE, [("ring", [2, 1, 0], 6), ("all", [1, 2], 3)], 1)

    def test_the_least_place(self):
        self.overpaid(PATH, [("all", [4, 9], 3), ("all", [1, 3], 5)], 3)
        self.overpaid(FULL, [("all", [4, 5], 19), ("all", [2, 3], 19)], 2)
        self.overpaid(FULL, [("ring", [5, 4, 3], 10 ** 59)], 3)

    def test_alike_rows(self):
        self.stands(TRIANGLE, [("all", [0, 1, 2], 2)] * 3)
        self.overpaid(TRIANGLE, [("all", [0, 1, 2], 2)] * 4, 0)

    def test_no_rows_goes_ahead(self):
        self.refused(PATH, [("all", [1, 3], 5), None], 1)
        self.refused(PATH, [("all", [1, 3], 5)] * 201, None)


class TestWorth(RowsCase):
    def test_both_words(self):
        for size in range(2, 7):
            self.assertTrue(alike(worth_of(FULL, [("all", list(range(size)), 3)]), 3 * (size - 1)))
        self.assertEqual(worth_of(TRIANGLE, [("ring", [0, 1, 2], 5)]), 10)
        self.assertEqual(worth_of(FIVE, [("ring", WALK, 3)]), 9)
        self.assertEqual(worth_of(SEVEN, [("ring", list(range(7)), 1)]), 4)
        self.assertEqual(worth_of(FULL, [("ring", [0, 1, 2], 1), ("all", [0, 1, 2], 1), ("all", [0, 1, 2], 1)]), 6)

    def test_bounds_are_rounded_up(self):
        for amount, bound in ((1, 1), (2, 1), (3, 2), (4, 2)):
            self.assertTrue(alike(bound_of(PATH, [("all", [1, 3], amount)]), bound))
        self.assertEqual(bound_of(FIVE, [("ring", WALK, 3)]), 5)

    def test_great_amounts(self):
        web = ([(0, 5 * 10 ** 11), (1, 5 * 10 ** 11)], [(0, 1)])
        self.assertEqual(worth_of(web, [("all", [0, 1], 10 ** 12)]), 10 ** 12)
        self.assertEqual(bound_of(web, [("all", [0, 1], 10 ** 12 - 1)]), 5 * 10 ** 11)

    def test_no_rows_at_all(self):
        for web in (EMPTY, PATH, FULL):
            self.assertTrue(alike(worth_of(web, []), 0))
            self.assertTrue(alike(bound_of(web, []), 0))

    def test_no_web_goes_ahead(self):
        for ask in TAKES_ROWS:
            for thing in NO_WEBS:
                for rows in ([], None, [None]):
                    with self.assertRaises(NoWeb):
                        ask(thing, rows)


class TestTight(unittest.TestCase):
    def test_tight(self):
        self.assertIs(is_tight(TRIANGLE, [("ring", [0, 1, 2], 6), ("all", [1, 2], 2)], [0, 1]), True)
        self.assertIs(is_tight(([(0, 3), (1, 3), (2, 3)], TRIANGLE[1]), [("ring", [0, 1, 2], 6)], [0, 1]), True)
        self.assertIs(is_tight(([(0, 3), (1, 3), (2, 3)], TRIANGLE[1]), [("all", [0, 1, 2], 6)], [1, 2]), True)
        self.assertIs(is_tight(PATH, [("all", [1, 3], 4), ("all", [4, 9], 2)], [3, 9]), True)
        self.assertIs(is_tight(FIVE, [("ring", WALK, 4)], [1, 7, 9]), True)

    def test_missed_by_one_thing(self):
        rows = [("all", [1, 3], 4), ("all", [4, 9], 2)]
        self.assertIs(is_tight(PATH, [("all", [1, 3], 3), ("all", [4, 9], 2)], [3, 9]), False)
        self.assertIs(is_tight(PATH, [("all", [1, 3], 3), ("all", [3, 4], 1), ("all", [4, 9], 2)], [3, 9]), True)
        self.assertIs(is_tight(PATH, rows, [3]), False)
        self.assertIs(is_tight(PATH, rows, [9]), False)
        self.assertIs(is_tight(PATH, rows, [1, 9]), False)
        self.assertIs(is_tight(PATH, rows, [3, 4]), False)
        self.assertIs(is_tight(PATH, rows, []), False)
        self.assertIs(is_tight(PATH, rows[:1], [3, 9]), False)
        both = ([(0, 3), (1, 3)], [(0, 1)])
        self.assertIs(is_tight(both, [("all", [0, 1], 6)], [0]), True)
        self.assertIs(is_tight(both, [("all", [0, 1], 6)], [0, 1]), False)
        self.assertIs(is_tight(FIVE, [("ring", WALK, 4)], [1, 2]), False)
        self.assertIs(is_tight(FIVE, [("ring", WALK, 4)], [1, 2, 4, 9]), False)

    def test_no_rows_at_all(self):
        self.assertIs(is_tight(EMPTY, [], []), True)
        self.assertIs(is_tight(PATH, [], []), True)
        self.assertIs(is_tight(PATH, [], [3]), False)
        self.assertIs(is_tight(SCATTERED, [], [7]), False)

    def test_what_is_refused_ahead_of_what(self):
        over = [("all", [1, 3], 5)]
        for some in (None, [3, 3], [1], "x", [[]]):
            for thing in NO_WEBS:
                with self.assertRaises(NoWeb):
                    is_tight(thing, None, some)
            with self.assertRaises(NoRows):
                is_tight(PATH, None, some)
            with self.assertRaises(NoRows):
                is_tight(PATH, [None] + over, some)
            with self.assertRaises(Overpaid):
                is_tight(PATH, over, some)

    def test_no_set(self):
        for thing in ANYTHING + [[3, 1], [3, 3], (3, 4), [True], [2]]:
            if not alike(thing, []) and not alike(thing, [1]):
                with self.assertRaises(NoSet):
                    is_tight(PATH, [], thing)


class TestShown(unittest.TestCase):
    def test_no_touching_set_costs_less_than_the_bound(self):
        rng = random.Random(11)
        met = 0
        for _ in range(300):
            web = chance_web(rng, many=rng.randrange(2, 8), density=rng.choice([0.4, 0.7, 1]))
            rows = chance_rows(rng, web)
            self.assertIsNone(look_at_rows(web, rows))
            self.assertLessEqual(bound_of(web, rows), least_cost(web))
            met += bound_of(web, rows) == least_cost(web)
        self.assertGreater(met, 20)

    def test_a_touching_set_for_which_rows_are_tight_costs_half_their_worth(self):
        rng = random.Random(12)
        met = 0
        for _ in range(300):
            web = chance_web(rng, many=rng.randrange(2, 7), most_price=2, density=rng.choice([0.4, 0.7, 1]))
            rows = chance_rows(rng, web)
            paid = {place: sum(amount for _, places, amount in rows if place in places) for place, _ in web[0]}
            for some in all_sets(web):
                told = all(paid[place] == 2 * dict(web[0])[place] for place in some) and all(
                    len(set(places) & set(some)) == (len(places) - 1 if word == "all" else (len(places) + 1) // 2)
                    for word, places, _ in rows)
                self.assertIs(is_tight(web, rows, some), told)
                if told and touches(web, some):
                    met += 1
                    self.assertEqual(2 * cost(web, some), worth_of(web, rows))
                    self.assertEqual(cost(web, some), least_cost(web))
        self.assertGreater(met, 20)


if __name__ == "__main__":
    unittest.main()
