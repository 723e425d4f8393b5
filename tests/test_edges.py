import random
import unittest

from tests.helping import (ANYTHING, EMPTY, NO_WEBS, OTHER, PATH, SCATTERED, TRIANGLE, alike, beside_each_other,
                           between_one_another, chance_web, circled, copied, cost, five_by_five, full_ties, is_number,
                           least_cost, least_sets, less_places, line_of, many_tuples, mixed_up, nears_of, refusal,
                           repriced, ring_of, spoilt, touches)
from touchall.edges import edge_of, lets_edge
from touchall.errors import NoPlace, NoTree, NoWeb
from touchall.seeking import least_of
from touchall.sets import is_set
from touchall.trees import claim_of

FEW = (1, 2, 3, 5, 400, 1000)


def both_less(web, place):
    around = nears_of(web)[place]
    return (less_places(web, [place]), less_places(web, around | {place}), cost(web, around))


def shows_least(web, amount, some, tree):
    if not is_set(web, some) or not touches(web, some) or cost(web, some) != amount:
        return False
    try:
        return claim_of(web, tree) == amount
    except NoTree:
        return False


def edge_reads(web, place, thing):
    """A plain reading of what is let by as an edge."""
    if not isinstance(thing, tuple) or len(thing) != 7 or not alike(thing[0], "edge"):
        return False
    if not is_number(thing[1]) or not is_number(thing[2]):
        return False
    less, lesser, near = both_less(web, place)
    return shows_least(less, thing[1], thing[3], thing[5]) and shows_least(lesser, thing[2] - near, thing[4], thing[6])


class EdgeCase(unittest.TestCase):
    def check(self, web, place, most):
        told = edge_of(web, place, most)
        self.assertIsInstance(told, tuple)
        if told != ("open",):
            self.assertTrue(edge_reads(web, place, told), told)
            self.assertIs(lets_edge(web, place, told), True)
            self.assertLessEqual(max(many_tuples(told[5]), many_tuples(told[6])), most)
        return told

    def edge(self, web, place, most):
        told = self.check(web, place, most)
        self.assertEqual(told[0], "edge", (web, place, most))
        return told[1], told[2]


class TestEdges(EdgeCase):
    def test_small_ones(self):
        self.assertTrue(alike(edge_of(([(7, 3)], []), 7, 1),
                              ("edge", 0, 0, [], [], ("bound", []), ("bound", []))))
        self.assertEqual(self.edge(PATH, 3, 400), (1, 12))
        self.assertEqual(self.edge(PATH, 4, 400), (2, 3))
        self.assertEqual([self.edge(TRIANGLE, place, 400) for place in (0, 1, 2)], [(4, 9), (3, 8), (3, 7)])
        self.assertEqual(self.edge(SCATTERED, 7, 400), (5, 5))

    def test_against_all_sets(self):
        rng = random.Random(251)
        for _ in range(120):
            web = chance_web(rng, many=rng.randint(1, 8), most_price=rng.choice([1, 2, 4, 9, 10 ** 11]))
            for place, _ in web[0]:
                less, lesser, near = both_less(web, place)
                self.assertEqual(self.edge(web, place, 400), (least_cost(less), near + least_cost(lesser)))

    def test_another_price_below_at_and_above_the_edge(self):
        rng = random.Random(252)
        met = {-1: 0, 0: 0, 1: 0}
        for _ in range(60):
            web = chance_web(rng, many=rng.randint(1, 7), most_price=rng.choice([1, 2, 4]))
            for place, _ in web[0]:
                without, instead = self.edge(web, place, 400)
                edge = instead - without
                self.assertGreaterEqual(edge, 0)
                for price in (1, edge - 1, edge, edge + 1, edge + 5):
                    if price >= 1:
                        self.priced(repriced(web, place, price), place, price, (without, instead))
                        met[(price > edge) - (price < edge)] += 1
        self.assertGreater(min(met.values()), 30)

    def priced(self, web, place, price, edge):
        found = least_sets(web)
        self.assertEqual(cost(web, found[0]), min(edge[0] + price, edge[1]))
        held = [place in some for some in found]
        if price < edge[1] - edge[0]:
            self.assertTrue(all(held))
        elif price > edge[1] - edge[0]:
            self.assertFalse(any(held))
        else:
            self.assertTrue(any(held) and not all(held))

    # What v itself costs has no part in it.
    def test_its_own_price_turns_nothing(self):
        for place, _ in TRIANGLE[0]:
            told = edge_of(TRIANGLE, place, 400)
            for price in (1, 5, 10 ** 11):
                self.assertTrue(alike(edge_of(repriced(TRIANGLE, place, price), place, 400), told))

    def test_few_tuples(self):
        rng = random.Random(253)
        met = {"edge": 0, "open": 0}
        for _ in range(60):
            web = chance_web(rng, many=rng.randint(1, 10), most_price=rng.choice([1, 2, 9]))
            for place, _ in web[0]:
                for most in FEW:
                    told = self.check(web, place, most)
                    met[told[0]] += 1
                    if told[0] == "edge":
                        self.assertEqual(told[1:3], self.edge(web, place, 1000))
        self.assertGreater(min(met.values()), 30)

    def test_open_is_a_tuple_of_one_word(self):
        told = [edge_of(five_by_five(2), place, most) for place in (0, 7) for most in (1, 2, 3)]
        self.assertTrue(any(alike(one, ("open",)) for one in told))

    # Open just where one of both webs' least sets is.
    def test_open_as_the_least_sets_are(self):
        rng = random.Random(254)
        for _ in range(40):
            web = chance_web(rng, many=10, most_price=2, density=0.5)
            for place, _ in web[0][:3]:
                less, lesser, _ = both_less(web, place)
                for most in (1, 2, 3):
                    opened = "open" in (least_of(less, most)[0], least_of(lesser, most)[0])
                    self.assertEqual(edge_of(web, place, most)[0] == "open", opened)

    def test_never_open_of_ten_places_with_four_hundred(self):
        rng = random.Random(255)
        webs = [([(k, 1) for k in range(10)], ties) for ties in
                (full_ties(10, 45), circled(10, (1, 2)), circled(10, (1, 5)), circled(10, (1, 2, 4)), [])]
        webs += [five_by_five(1)]
        webs += [chance_web(rng, many=10, most_price=rng.choice([1, 2, 1000]), density=density)
                 for density in (0.2, 0.3, 0.4, 0.5, 0.6, 0.8) for _ in range(6)]
        for web in webs:
            for place, _ in web[0]:
                self.edge(web, place, 400)

    def test_never_open_of_parts_of_ten_places_with_a_thousand(self):
        rng = random.Random(256)
        webs = [five_by_five(4), between_one_another(4, 10, (1, 2)), beside_each_other([ring_of(9)] * 4)]
        for _ in range(6):
            parts = [chance_web(rng, many=10, most_price=3, density=0.5) for _ in range(4)]
            parts = [(web[0], web[1][:30]) for web in parts]
            webs.append(mixed_up(rng, beside_each_other(parts)))
        for web in webs:
            for place, _ in web[0][::9]:
                self.edge(web, place, 1000)

    def test_great_prices(self):
        web = ([(0, 10 ** 12 - 2), (1, 1), (2, 1)], [(0, 1), (0, 2)])
        self.assertEqual(self.edge(web, 0, 400), (0, 2))
        self.assertEqual(self.edge(web, 1, 400), (1, 10 ** 12 - 2))
        self.assertEqual(self.edge(line_of(40, 25 * 10 ** 9), 0, 1000), (19 * 25 * 10 ** 9, 20 * 25 * 10 ** 9))


class TestLetsEdge(EdgeCase):
    def test_missed_by_one(self):
        rng = random.Random(257)
        met = [0, 0]
        webs = [PATH, TRIANGLE, SCATTERED, ([(7, 3)], []), ring_of(5)]
        webs += [chance_web(rng, many=rng.randint(3, 6), most_price=3, density=0.5) for _ in range(4)]
        for web in webs:
            for place, _ in web[0][:2]:
                for thing in spoilt(edge_of(web, place, 400)):
                    wanted = edge_reads(web, place, thing)
                    self.assertIs(lets_edge(web, place, thing), wanted, (web, place, thing))
                    met[wanted] += 1
        self.assertGreater(met[0], 2000)

    def refused(self, web, place, told, at, part):
        self.assertIs(lets_edge(web, place, told[:at] + (part,) + told[at + 1:]), False, (at, part))

    def test_part_by_part(self):
        told = edge_of(PATH, 4, 400)
        self.assertEqual(told[:5], ("edge", 2, 3, [3], []))
        for word in ("open", "edges", "Edge", "", None, 1, ["edge"], ("edge",)):
            self.refused(PATH, 4, told, 0, word)
        for at in (1, 2):
            for part in (told[at] + 1, told[at] - 1, True, False, None, str(told[at]), [told[at]], -told[at]):
                self.refused(PATH, 4, told, at, part)
        for part in ([], [1], [1, 3], [3, 4], [3, 9], [9, 3], [3, 3], (3,), [True], [3, None], None, {3: True}, "3"):
            self.refused(PATH, 4, told, 3, part)
        for part in ([1], [3], [4], (), None, [None], {}):
            self.refused(PATH, 4, told, 4, part)
        for part in (("bound", []), ("bound", [("all", [1, 3], 2)]), ("bound", [("all", [1, 3], 5)]), ["bound", []],
                     ("bound", [("all", [1, 3], 4), ("all", [4, 9], 2)]), None, (), ("step",), told[3]):
            self.refused(PATH, 4, told, 5, part)
        for part in (None, (), ("bound", [("all", [1, 3], 4)]), ["bound", []], ("bound",), ("parts", [])):
            self.refused(PATH, 4, told, 6, part)

    # A truth equals a number, but is none, also where the number is right.
    def test_truths_in_numbers_stead(self):
        web = ([(0, 1), (1, 1)], [(0, 1)])
        told = edge_of(web, 0, 400)
        self.assertTrue(alike(told[:5], ("edge", 0, 1, [], [])))
        self.assertIs(lets_edge(web, 0, told), True)
        self.refused(web, 0, told, 1, False)
        self.refused(web, 0, told, 2, True)

    def test_fewer_and_more_parts(self):
        told = edge_of(TRIANGLE, 1, 400)
        self.assertIs(lets_edge(TRIANGLE, 1, told), True)
        for thing in (told[:6], told[1:], told + (None,), told + told, list(told), (told,), ("open",), ()):
            self.assertIs(lets_edge(TRIANGLE, 1, thing), False)

    def test_other_sets_and_trees_that_are_as_good(self):
        web = ring_of(5)
        told = edge_of(web, 0, 400)
        self.assertEqual(told[1:3], (2, 3))
        for some in ([1, 3], [2, 3], [2, 4]):
            self.assertIs(lets_edge(web, 0, told[:3] + (some,) + told[4:]), True)
        self.assertIs(lets_edge(web, 0, told[:3] + ([1, 4],) + told[4:]), False)
        tree = ("bound", [("all", [1, 2], 2), ("all", [3, 4], 2)])
        self.assertIs(lets_edge(web, 0, told[:5] + (tree,) + told[6:]), True)
        tree = ("step", ("leaf", 1), tree)
        self.assertIs(lets_edge(web, 0, told[:5] + (tree,) + told[6:]), False)

    def test_told_of_another_place_or_web(self):
        told = edge_of(TRIANGLE, 1, 400)
        self.assertIs(lets_edge(TRIANGLE, 2, told), False)
        self.assertIs(lets_edge(repriced(TRIANGLE, 0, 4), 1, told), False)
        self.assertIs(lets_edge(repriced(TRIANGLE, 1, 9), 1, told), True)

    # Both numbers more by one, each with a set that costs so much: the trees claim less.
    def test_dearer_sets(self):
        web = ([(0, 1), (1, 1), (2, 2)], [(0, 1), (0, 2), (1, 2)])
        told = edge_of(web, 0, 400)
        self.assertEqual(told[1:5], (1, 3, [1], []))
        self.assertIs(lets_edge(web, 0, ("edge", 2, 3, [2], []) + told[5:]), False)

    def test_anything(self):
        for web in (PATH, TRIANGLE, ([(7, 3)], [])):
            for thing in ANYTHING + [(OTHER,) * 7, ([],) * 7, ("edge",) * 7, ("edge", 0, 0, [], [], None, None)]:
                self.assertIs(lets_edge(web, web[0][0][0], thing), False)

    def test_trees_of_just_so_many_tuples_within_one_another_and_one_more(self):
        web = ([(0, 5), (1, 5)], [])
        told = edge_of(web, 0, 400)
        deep = ("bound", [])
        for _ in range(100):
            deep = ("parts", [deep])
        self.assertIs(lets_edge(web, 0, told[:5] + (deep,) + told[6:]), False)
        self.assertIs(lets_edge(web, 0, told[:5] + (deep[1][0],) + told[6:]), True)


class TestRefused(unittest.TestCase):
    def test_what_is_no_place(self):
        for web in (EMPTY, PATH, TRIANGLE):
            held = [place for place, _ in web[0]]
            for thing in ANYTHING + [5, 1000, -1, [1], (1,), "1"]:
                if is_number(thing) and thing in held:
                    continue
                for ask, last in ((edge_of, 400), (lets_edge, None), (lets_edge, ("open",))):
                    kind, fields = refusal(ask, web, thing, last)
                    self.assertEqual((kind, list(fields)), (NoPlace, ["place"]))
                    self.assertTrue(fields["place"] is thing or alike(fields["place"], thing))

    def test_no_web_goes_ahead(self):
        for thing in NO_WEBS:
            for place in (0, 1, None, True, [1]):
                self.assertEqual(refusal(edge_of, thing, place, 400)[0], NoWeb)
                self.assertEqual(refusal(lets_edge, thing, place, None)[0], NoWeb)


class TestOwn(unittest.TestCase):
    def test_nothing_is_changed_or_kept(self):
        for web in (PATH, TRIANGLE, ring_of(7)):
            ahead = copied(web)
            told = edge_of(web, web[0][0][0], 400)
            first = copied(told)
            lets_edge(web, web[0][0][0], told)
            self.assertTrue(alike(told, first) and alike(web, ahead))
            told[3].append(OTHER)
            told[4].append(OTHER)
            self.assertTrue(alike(edge_of(web, web[0][0][0], 400), first))


if __name__ == "__main__":
    unittest.main()
