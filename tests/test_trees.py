import random
import unittest

from tests.helping import (ANYTHING, EMPTY, NO_WEBS, PATH, SCATTERED, TRIANGLE, alike, chance_web, copied, is_number,
                           least_cost, less_places, line_of, nears_of, refusal, spoilt, step_reads, step_tries)
from touchall.errors import NoTree, NoWeb, NoRows, Overpaid
from touchall.halves import halves_of
from touchall.parts import parts
from touchall.rows import bound_of
from touchall.trees import claim_of

NOTHING = ("bound", [])
PATH_PAPER = ([(1, 0), (3, 2), (4, 0), (9, 2)], [(1, 3, 4), (4, 9, 2)])
LONE = ([(5, 3)], [])
FORTY = ([(k, 1) for k in range(40)], [])


class Missed(Exception):
    pass


def tree_reads(web, tree, way=(), count=None):
    """A plain reading of what a tree claims; Missed with the way where it can't stand."""
    count = [0] if count is None else count
    count[0] += 1
    if count[0] > 1000 or len(way) >= 100 or not isinstance(tree, tuple) or not tree or not isinstance(tree[0], str):
        raise Missed(list(way))
    prices, nears = dict(web[0]), nears_of(web)
    if tree[0] == "bound" and len(tree) == 2:
        try:
            return bound_of(web, tree[1])
        except (NoRows, Overpaid):
            raise Missed(list(way))
    if tree[0] == "step" and len(tree) == 3 and step_reads(web, tree[1]) is not None:
        small, added = step_reads(web, tree[1])
        return added + tree_reads(small, tree[2], way + (0,), count)
    if tree[0] == "parts" and len(tree) == 2 and isinstance(tree[1], list) and len(tree[1]) == len(parts(web)):
        pairs = zip(parts(web), tree[1])
        return sum(tree_reads(part, one, way + (at,), count) for at, (part, one) in enumerate(pairs))
    if tree[0] == "split" and len(tree) == 4 and is_number(tree[1]) and tree[1] in prices:
        v = tree[1]
        one = tree_reads(less_places(web, [v]), tree[2], way + (0,), count)
        other = tree_reads(less_places(web, {v} | nears[v]), tree[3], way + (1,), count)
        return min(prices[v] + one, sum(prices[place] for place in nears[v]) + other)
    raise Missed(list(way))


def within(many, tree=NOTHING):
    """So many tuples within one another for a web of one part."""
    for _ in range(many - 1):
        tree = ("parts", [tree])
    return tree


class TreesCase(unittest.TestCase):
    def claims(self, web, tree, claim):
        self.assertTrue(alike(claim_of(web, tree), claim), (web, tree))

    def misses(self, web, tree, way):
        found = refusal(claim_of, web, tree)
        self.assertIsNotNone(found, tree)
        self.assertEqual(found[0], NoTree)
        self.assertTrue(alike(found[1], {"way": way}), (found, tree))


class TestClaims(TreesCase):
    def test_bound(self):
        self.claims(EMPTY, NOTHING, 0)
        self.claims(PATH, NOTHING, 0)
        self.claims(PATH, ("bound", [("all", [1, 3], 4)]), 2)
        self.claims(PATH, ("bound", [("all", [1, 3], 3)]), 2)
        self.claims(PATH, ("bound", [("all", [1, 3], 4), ("all", [4, 9], 2)]), 3)
        self.claims(TRIANGLE, ("bound", [("ring", [0, 1, 2], 6), ("all", [1, 2], 2)]), 7)
        self.claims(TRIANGLE, ("bound", [("all", [0, 1, 2], 6), ("all", [1, 2], 2)]), 7)

    def test_step(self):
        self.claims(PATH, ("step", ("near", 1), NOTHING), 2)
        self.claims(PATH, ("step", ("near", 1), ("bound", [("all", [4, 9], 2)])), 3)
        self.claims(PATH, ("step", ("near", 1), ("step", ("leaf", 9), ("step", ("lone", 4), NOTHING))), 3)
        self.claims(PATH, ("step", ("halves", PATH_PAPER), NOTHING), 3)
        self.claims(TRIANGLE, ("step", ("over", 2, 0), ("bound", [("all", [1, 2], 8)])), 7)

    def test_parts(self):
        self.claims(EMPTY, ("parts", []), 0)
        self.claims(LONE, ("parts", [NOTHING]), 0)
        self.claims(PATH, ("parts", [("bound", [("all", [1, 3], 4)])]), 2)
        self.claims(SCATTERED, ("parts", [NOTHING, NOTHING, NOTHING]), 0)
        trees = [("bound", [("all", [0, 8], 2), ("all", [5, 8], 6)]), ("bound", [("all", [2, 999], 2)]), NOTHING]
        self.claims(SCATTERED, ("parts", trees), 5)
        self.claims(SCATTERED, ("parts", [NOTHING, trees[1], ("step", ("lone", 7), ("parts", []))]), 1)

    def test_split(self):
        self.claims(PATH, ("split", 4, NOTHING, NOTHING), 3)
        self.claims(PATH, ("split", 3, NOTHING, NOTHING), 2)
        self.claims(PATH, ("split", 3, ("bound", [("all", [4, 9], 2)]), NOTHING), 3)
        self.claims(PATH, ("split", 1, NOTHING, ("bound", [("all", [4, 9], 2)])), 3)
        self.claims(PATH, ("split", 1, NOTHING, NOTHING), 2)
        self.claims(LONE, ("split", 5, NOTHING, NOTHING), 0)
        self.claims(TRIANGLE, ("split", 0, ("bound", [("all", [1, 2], 8)]), NOTHING), 7)
        self.claims(TRIANGLE, ("split", 2, ("bound", [("all", [0, 1], 6)]), NOTHING), 7)
        star = ([(0, 5), (1, 2), (2, 2)], [(0, 1), (0, 2)])
        self.claims(star, ("split", 0, NOTHING, NOTHING), 4)
        self.claims(([(0, 3), (1, 2), (2, 2)], [(0, 1), (0, 2)]), ("split", 0, NOTHING, NOTHING), 3)

    def test_all_four_within_one_another(self):
        tree = ("parts", [("split", 8, ("parts", [NOTHING, NOTHING]), ("parts", [])),
                          ("step", ("leaf", 2), ("bound", [])), ("split", 7, NOTHING, ("parts", []))])
        self.claims(SCATTERED, tree, 5)


class TestMisses(TreesCase):
    def test_things_of_any_kind(self):
        for thing in ANYTHING + [("bound",), ("bound", [], []), ("step", ("near", 1)), ("parts", [], []), ("parts",),
                                 ("split", 1, NOTHING), ("split", 1, NOTHING, NOTHING, NOTHING), ("Bound", []),
                                 ("", []), ("least", []), ["bound", []], (["bound"], []), (None, []), ("bounds", []),
                                 ("split",), ("step",), ("split", 1), (("bound", []),), [NOTHING], ({}, {}, {})]:
            self.misses(PATH, thing, [])
            self.misses(PATH, ("step", ("near", 1), thing), [0])
            self.misses(PATH, ("parts", [thing]), [0])
            self.misses(PATH, ("split", 3, thing, NOTHING), [0])
            self.misses(PATH, ("split", 3, NOTHING, thing), [1])
            self.misses(PATH, ("split", 3, NOTHING, ("split", 9, ("parts", []), thing)), [1, 1])
            self.misses(SCATTERED, ("parts", [NOTHING, NOTHING, thing]), [2])

    def test_rows_that_are_none(self):
        for rows in ANYTHING + [[("all", [1, 3], 4), None], [("all", [1, 4], 1)], [("all", [1, 3], 1)] * 201]:
            if not alike(rows, []):
                self.misses(PATH, ("bound", rows), [])
                self.misses(PATH, ("parts", [("bound", rows)]), [0])
                self.misses(SCATTERED, ("parts", [NOTHING, NOTHING, ("bound", rows)]), [2])

    def test_rows_that_pay_too_much(self):
        over = ("bound", [("all", [1, 3], 5)])
        self.misses(PATH, over, [])
        self.misses(PATH, ("split", 9, over, NOTHING), [0])
        self.misses(PATH, ("split", 9, NOTHING, over), [1])
        self.claims(PATH, ("step", ("leaf", 9), ("bound", [("all", [3, 4], 4)])), 3)
        # The smaller web's price counts.
        self.misses(([(0, 3), (1, 4)], [(0, 1)]), ("step", ("leaf", 0), ("bound", [("all", [0, 1], 1)])), [0])
        web = ([(0, 3), (1, 4), (2, 9)], [(0, 1), (1, 2)])
        self.claims(web, ("step", ("leaf", 0), ("bound", [("all", [1, 2], 2)])), 4)
        self.misses(web, ("step", ("leaf", 0), ("bound", [("all", [1, 2], 3)])), [0])

    def test_steps_that_do_not_fit(self):
        for step in ANYTHING + [("lone", 1), ("near", 3), ("fold", 1), ("halves", None), ("leaf", 1)]:
            self.misses(PATH, ("step", step, NOTHING), [])
            self.misses(PATH, ("step", step, None), [])
            self.misses(PATH, ("parts", [("step", step, NOTHING)]), [0])
        self.misses(PATH, ("step", ("near", 1), ("step", ("near", 1), NOTHING)), [0])

    def test_places_that_are_none(self):
        for place in ANYTHING + [2, 5, "3", [3], (3,)]:
            if not alike(place, 1):
                self.misses(PATH, ("split", place, NOTHING, NOTHING), [])
                self.misses(PATH, ("split", place, None, None), [])
                self.misses(PATH, ("split", 3, ("split", place, NOTHING, NOTHING), NOTHING), [0])
        self.misses(PATH, ("split", True, NOTHING, NOTHING), [])
        self.misses(PATH, ("split", 3, ("split", 3, NOTHING, NOTHING), NOTHING), [0])
        self.misses(PATH, ("split", 3, NOTHING, ("split", 4, NOTHING, NOTHING)), [1])
        self.claims(PATH, ("split", 3, ("split", 4, NOTHING, NOTHING), NOTHING), 3)

    def test_too_few_and_too_many_parts(self):
        for trees in ([], [NOTHING] * 2, [None] * 2, [NOTHING] * 4, [NOTHING] * 2000, (NOTHING,) * 3, None,
                      {0: NOTHING, 1: NOTHING, 2: NOTHING}, "abc"):
            self.misses(SCATTERED, ("parts", trees), [])
            self.misses(SCATTERED, ("step", ("leaf", 0), ("parts", trees)), [0])
        self.misses(EMPTY, ("parts", [NOTHING]), [])
        self.misses(LONE, ("parts", []), [])
        self.misses(PATH, ("split", 3, ("parts", [NOTHING]), NOTHING), [0])
        self.claims(PATH, ("split", 3, ("parts", [NOTHING] * 2), NOTHING), 2)

    def test_the_first_of_several(self):
        bad = ("bound", None)
        self.misses(PATH, ("split", 3, bad, bad), [0])
        self.misses(PATH, ("split", 2, bad, bad), [])
        self.misses(PATH, ("split", 3, ("parts", [NOTHING, bad]), bad), [0, 1])
        self.misses(PATH, ("split", 3, ("parts", [bad]), NOTHING), [0])
        self.misses(SCATTERED, ("parts", [NOTHING, bad, bad]), [1])
        self.misses(SCATTERED, ("parts", [NOTHING, ("split", 2, NOTHING, bad), bad]), [1, 1])
        self.misses(SCATTERED, ("parts", [("step", ("lone", 7), bad), bad, bad]), [0])
        self.misses(PATH, ("step", ("lone", 1), bad), [])

    def test_missed_by_one_thing(self):
        trees = [(PATH, ("split", 4, ("bound", [("all", [1, 3], 4)]), ("parts", [NOTHING]))),
                 (SCATTERED, ("parts", [("split", 8, NOTHING, NOTHING), ("step", ("leaf", 2), NOTHING), NOTHING])),
                 (PATH, ("step", ("halves", PATH_PAPER), ("parts", []))),
                 (TRIANGLE, ("step", ("over", 2, 0), ("bound", [("all", [1, 2], 8)])))]
        for web, tree in trees:
            for thing in spoilt(tree):
                try:
                    self.claims(web, thing, tree_reads(web, thing))
                except Missed as error:
                    self.misses(web, thing, error.args[0])

    def test_no_web_goes_ahead(self):
        for thing in NO_WEBS:
            for tree in (NOTHING, None, ("parts", [])):
                self.assertEqual(refusal(claim_of, thing, tree)[0], NoWeb)


class TestGreatTrees(TreesCase):
    def test_a_hundred_within_one_another(self):
        self.claims(LONE, within(99), 0)
        self.claims(LONE, within(100), 0)
        self.misses(LONE, within(101), [0] * 100)
        self.misses(LONE, within(102), [0] * 100)
        self.misses(LONE, within(100, None), [0] * 99)
        self.misses(LONE, within(101, None), [0] * 100)
        tie = ([(0, 1), (1, 1)], [(0, 1)])
        deep = ("split", 0, within(99), NOTHING)
        self.claims(tie, deep, 1)
        self.misses(tie, ("split", 0, within(100), NOTHING), [0] * 100)

    def test_a_hundred_with_steps_and_splits(self):
        many = 39
        web = ([(k, 1) for k in range(many)] + [(99, 5)], [])
        tree = within(100 - many)
        for k in range(many - 1, -1, -1):
            tree = ("step", ("lone", k), tree) if k % 2 else ("split", k, tree, NOTHING)
        self.claims(web, tree, 0)
        tree = within(101 - many)
        for k in range(many - 1, -1, -1):
            tree = ("step", ("lone", k), tree) if k % 2 else ("split", k, NOTHING, tree)
        self.misses(web, tree, [1 - k % 2 for k in range(many)] + [0] * (100 - many))

    def test_very_deep_ones(self):
        self.misses(LONE, within(50000), [0] * 100)

    def test_a_thousand_tuples(self):
        self.claims(FORTY, ("parts", [within(25) for _ in range(39)] + [within(24)]), 0)
        self.misses(FORTY, ("parts", [within(25) for _ in range(40)]), [39] + [0] * 24)
        self.misses(FORTY, ("parts", [within(24)] + [within(25) for _ in range(38)] + [within(26)]), [39] + [0] * 25)
        self.misses(FORTY, ("parts", [within(60)] * 40), [16] + [0] * 39)

    def test_one_tree_at_several_places(self):
        one = within(25)
        self.claims(FORTY, ("parts", [one] * 39 + [within(24)]), 0)
        self.misses(FORTY, ("parts", [one] * 40), [39] + [0] * 24)

    def test_found_as_soon_as_it_is_met(self):
        tree = NOTHING
        for k in range(39, -1, -1):
            tree = ("split", k, tree, tree)
        # More tuples than could ever be gone through one by one.
        found = refusal(claim_of, FORTY, tree)
        self.assertEqual(found[0], NoTree)
        # The leftmost leaf is the forty-first; from there on each next tuple goes as a count in twos does.
        self.assertEqual(found[1]["way"], way_of(1000))
        bad = ("bound", None)
        self.misses(FORTY, ("split", 0, ("parts", [bad] + [NOTHING] * 38), tree), [0, 0])
        self.misses(FORTY, ("parts", [within(60)] * 20 + [bad] * 20), [16] + [0] * 39)
        self.misses(FORTY, ("parts", [within(60)] * 16 + [bad] * 24), [16])
        self.misses(FORTY, ("parts", [within(101)] + [bad] * 39), [0] + [0] * 99)
        self.misses(FORTY, ("parts", [bad] + [within(101)] * 39), [0])

    def test_splits_of_just_a_thousand(self):
        web = ([(k, 1) for k in range(12)], [])
        # Nine splits within one another on both sides come to 1023 tuples, each split less to two fewer.
        tree = full_split(list(range(9)))
        for _ in range(11):
            tree = one_split_less(tree)
        with self.assertRaises(Missed) as missed:
            tree_reads(web, tree)
        self.misses(web, tree, missed.exception.args[0])
        tree = one_split_less(tree)
        self.claims(web, tree, 0)
        self.claims(web, ("step", ("lone", 11), tree), 0)
        last = [0] + missed.exception.args[0]
        self.misses(web, ("step", ("lone", 11), ("step", ("lone", 10), tree)), [0] + last)


def way_of(number):
    """The way of the tuple of this number, from 0, each tuple ahead of its two trees, forty splits deep."""
    way = []
    left, depth = number, 40
    while left:
        left -= 1
        side = 2 ** depth - 1
        way.append(0 if left < side else 1)
        left -= 0 if left < side else side
        depth -= 1
    return way


def full_split(numbers):
    if not numbers:
        return NOTHING
    return ("split", numbers[0], full_split(numbers[1:]), full_split(numbers[1:]))


def one_split_less(tree):
    """The tree with its first split that has two leaves made a leaf."""
    if tree[2] == NOTHING and tree[3] == NOTHING:
        return NOTHING
    if tree[2] != NOTHING:
        return ("split", tree[1], one_split_less(tree[2]), tree[3])
    return ("split", tree[1], tree[2], one_split_less(tree[3]))


def chance_tree(rng, web, depth=0):
    """A tree that may stand, by chance."""
    word = rng.choice(["bound", "step", "parts", "split"]) if depth < 6 else "bound"
    numbers = [place for place, _ in web[0]]
    if word == "step":
        tries = [step for step in step_tries(web) if step_reads(web, step) is not None]
        tries += [("halves", halves_of(web))] if any(h != 1 for _, h in halves_of(web)[0]) else []
        if tries:
            step = rng.choice(tries)
            return ("step", step, chance_tree(rng, step_reads(web, step)[0], depth + 1))
    if word == "parts":
        return ("parts", [chance_tree(rng, part, depth + 1) for part in parts(web)])
    if word == "split" and numbers:
        v = rng.choice(numbers)
        return ("split", v, chance_tree(rng, less_places(web, [v]), depth + 1),
                chance_tree(rng, less_places(web, {v} | nears_of(web)[v]), depth + 1))
    if rng.random() < 0.7:
        return ("bound", [("all", [one, other], amount) for one, other, amount in halves_of(web)[1]])
    return ("bound", [("all", list(tie), rng.randint(1, 6)) for tie in web[1] if rng.random() < 0.4])


class TestShown(TreesCase):
    def test_by_chance(self):
        rng = random.Random(91)
        met, least, missed = 0, 0, 0
        for _ in range(600):
            web = chance_web(rng, many=rng.randrange(0, 7), most_price=rng.choice([1, 2, 4, 9]))
            tree = chance_tree(rng, web)
            try:
                claim = tree_reads(web, tree)
                self.claims(web, tree, claim)
                self.assertLessEqual(claim, least_cost(web))
                met += 1
                least += claim == least_cost(web) > 0
            except Missed as error:
                self.misses(web, tree, error.args[0])
                missed += 1
        self.assertGreater(met, 200)
        self.assertGreater(least, 50)
        self.assertGreater(missed, 10)

    def test_strings_of_forty(self):
        web = line_of(40)
        tree = NOTHING
        for k in range(38, -1, -2):
            tree = ("step", ("near", k), tree)
        self.claims(web, tree, 20)

    def test_what_is_handed_in_stays(self):
        rng = random.Random(92)
        for _ in range(50):
            web = chance_web(rng, many=rng.randrange(0, 6))
            tree = chance_tree(rng, web)
            ahead = copied((web, tree))
            refusal(claim_of, web, tree)
            self.assertTrue(alike((web, tree), ahead))

    def test_the_way_is_the_asker_s_own(self):
        tree = ("split", 3, NOTHING, ("bound", None))
        try:
            claim_of(PATH, tree)
        except NoTree as error:
            error.way.append("spoilt")
        self.misses(PATH, tree, [1])


if __name__ == "__main__":
    unittest.main()
