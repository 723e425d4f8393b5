import random
import unittest

from tests.helping import (ANYTHING, EMPTY, NO_WEBS, OTHER, PATH, SCATTERED, TRIANGLE, alike, beside_each_other,
                           chance_rows, chance_web, copied, cost, five_by_five, grove, least_cost, less_places,
                           line_of, lists_in, many_tuples, nears_of, refusal, renamed, ring_of, spoilt, step_reads,
                           step_tries, touching_sets)
from touchall.calls import (called_chain, called_dues, called_halves, called_rows, called_set, called_step,
                            called_tree, called_web, calls_back, look_at_calls)
from touchall.edges import edge_of, lets_edge
from touchall.errors import NoCalls, NoWeb
from touchall.fixed import fixed_by, fixed_of, fixed_paper, lets_fixed
from touchall.forests import forest_least
from touchall.halves import halves_cost, halves_of, lets_halves
from touchall.parts import parts
from touchall.rows import look_at_rows, worth_of
from touchall.seeking import least_of
from touchall.sets import cost_of, is_set, left_by
from touchall.shrinking import made_small
from touchall.steps import after, back, fits, forth
from touchall.strings import string_least
from touchall.tight import is_tight
from touchall.trees import claim_of

NOTHING = ("bound", [])
TURNED = [(1, 9), (3, 4), (4, 3), (9, 1)]
CALLED = (called_set, called_rows, called_halves, called_dues, called_chain, called_step, called_tree)


def turned(web):
    """Calls that turn the order of the places about."""
    numbers = [place for place, _ in web[0]]
    return list(zip(numbers, [999 - 7 * at for at in range(len(numbers))]))


def chance_calls(rng, web):
    numbers = [place for place, _ in web[0]]
    return list(zip(numbers, rng.sample(range(1000), len(numbers))))


def some_calls(rng, web):
    """Calls of many kinds: by chance, turned about, the places exchanged among themselves, all as they are."""
    numbers = [place for place, _ in web[0]]
    mixed = rng.sample(numbers, len(numbers))
    return [chance_calls(rng, web), turned(web), list(zip(numbers, mixed)), list(zip(numbers, numbers))]


def calls_read(web, thing):
    """A plain reading of what calls of a web are."""
    numbers = [place for place, _ in web[0]]
    if not isinstance(thing, list) or len(thing) != len(numbers):
        return False
    for pair, place in zip(thing, numbers):
        if not isinstance(pair, tuple) or len(pair) != 2 or any(type(part) is not int for part in pair):
            return False
        if pair[0] != place or pair[1] not in range(1000):
            return False
    return len({pair[1] for pair in thing}) == len(thing)


def tree_called(web, names, tree):
    """A plain reading of a tree called otherwise, by what is left of the calls at each web."""
    kept = {place: names[place] for place, _ in web[0]}
    calls = sorted(kept.items())
    if tree[0] == "bound":
        return ("bound", called_rows(web, calls, tree[1]))
    if tree[0] == "step":
        return ("step", called_step(web, calls, tree[1]), tree_called(step_reads(web, tree[1])[0], kept, tree[2]))
    if tree[0] == "parts":
        pairs = sorted((min(kept[place] for place, _ in part[0]), at) for at, part in enumerate(parts(web)))
        return ("parts", [tree_called(parts(web)[at], kept, tree[1][at]) for _, at in pairs])
    less = (less_places(web, [tree[1]]), less_places(web, {tree[1]} | nears_of(web)[tree[1]]))
    return ("split", kept[tree[1]], tree_called(less[0], kept, tree[2]), tree_called(less[1], kept, tree[3]))


def all_steps(web):
    found = [step for step in step_tries(web) if step_reads(web, step) is not None]
    paper = halves_of(web)
    return found + ([("halves", paper)] if any(h != 1 for _, h in paper[0]) else [])


def standing_tree(rng, web, depth=0):
    """A tree of the web, by chance."""
    word = rng.choice(["bound", "step", "step", "parts", "split"]) if depth < 7 else "bound"
    steps = all_steps(web) if word == "step" else []
    if steps:
        words = sorted({step[0] for step in steps})
        picked = rng.choice(words)
        step = rng.choice([step for step in steps if step[0] == picked])
        return ("step", step, standing_tree(rng, step_reads(web, step)[0], depth + 1))
    if word == "parts":
        return ("parts", [standing_tree(rng, part, depth + 1) for part in parts(web)])
    if word == "split" and web[0]:
        v = rng.choice(web[0])[0]
        return ("split", v, standing_tree(rng, less_places(web, [v]), depth + 1),
                standing_tree(rng, less_places(web, {v} | nears_of(web)[v]), depth + 1))
    return ("bound", chance_rows(rng, web))


def words_in(tree):
    """All words of a tree and of its steps."""
    if tree[0] == "bound":
        return {"bound"} | {row[0] for row in tree[1]}
    if tree[0] == "step":
        return {"step", tree[1][0]} | words_in(tree[2])
    trees = tree[1] if tree[0] == "parts" else tree[2:]
    return {tree[0]}.union(*[words_in(one) for one in trees])


class CallsCase(unittest.TestCase):
    def told(self, told, wanted):
        self.assertTrue(alike(told, wanted), (told, wanted))

    def there_and_back(self, ask, web, calls, thing):
        """What is called, and called back to what it was."""
        told = ask(web, calls, thing)
        self.told(ask(called_web(web, calls), calls_back(web, calls), told), thing)
        return told


class TestCalls(CallsCase):
    def test_calls(self):
        for web in (EMPTY, PATH, TRIANGLE, SCATTERED, line_of(40)):
            for calls in some_calls(random.Random(261), web):
                self.assertIsNone(look_at_calls(web, calls))
        self.assertIsNone(look_at_calls(([(5, 3)], []), [(5, 0)]))
        self.assertIsNone(look_at_calls(([(5, 3)], []), [(5, 999)]))
        self.assertIsNone(look_at_calls(([(5, 3)], []), [(5, 5)]))

    def refused(self, web, thing):
        self.assertEqual(refusal(look_at_calls, web, thing)[0], NoCalls, thing)
        self.assertEqual(refusal(called_web, web, thing)[0], NoCalls, thing)
        self.assertEqual(refusal(calls_back, web, thing)[0], NoCalls, thing)
        for ask in CALLED:
            for other in (None, [], [[1]]):
                self.assertEqual(refusal(ask, web, thing, other)[0], NoCalls, (ask.__name__, thing))

    def test_things_of_any_kind(self):
        for thing in ANYTHING:
            self.refused(PATH, thing)
            if not alike(thing, []):
                self.refused(EMPTY, thing)
            if not alike(thing, [(1, 2)]):
                self.refused(([(1, 5)], []), thing)

    def test_things_that_are_no_calls(self):
        for thing in (TURNED[:3], TURNED[1:], TURNED + [(10, 10)], [(0, 0)] + TURNED, TURNED + TURNED[-1:],
                      [TURNED[1], TURNED[0]] + TURNED[2:], TURNED[::-1], tuple(TURNED), dict(TURNED),
                      [list(pair) for pair in TURNED], TURNED[:3] + [[9, 1]], TURNED[:3] + [(9,)],
                      TURNED[:3] + [(9, 1, 1)], TURNED[:3] + [(8, 1)], TURNED[:3] + [(9, 3)], TURNED[:3] + [(9, -1)],
                      TURNED[:3] + [(9, 1000)], TURNED[:3] + [(9, True)], TURNED[:3] + [(9, False)],
                      TURNED[:3] + [(9, None)], TURNED[:3] + [(9, "1")], TURNED[:3] + [(9, [1])], TURNED[:3] + [9],
                      [(True, 9)] + TURNED[1:], [("1", 9)] + TURNED[1:], TURNED[:3] + [(9, 10 ** 59)],
                      TURNED[:3] + [(OTHER, 1)], [(1, 0), (3, 0), (4, 0), (9, 0)], [(9, 1), (4, 3), (3, 4), (1, 9)]):
            self.refused(PATH, thing)

    def test_missed_by_one_thing(self):
        met = [0, 0]
        for web in (PATH, TRIANGLE, ([(5, 3)], []), EMPTY):
            for thing in spoilt(turned(web)):
                wanted = calls_read(web, thing)
                met[wanted] += 1
                if wanted:
                    self.assertIsNone(look_at_calls(web, thing), thing)
                else:
                    self.refused(web, thing)
        self.assertGreater(met[0], 150)
        self.assertGreater(met[1], 3)

    def test_no_web_goes_ahead(self):
        for thing in NO_WEBS:
            for calls in ([], None, [(1, 1)]):
                self.assertEqual(refusal(look_at_calls, thing, calls)[0], NoWeb)
                self.assertEqual(refusal(called_web, thing, calls)[0], NoWeb)
                self.assertEqual(refusal(calls_back, thing, calls)[0], NoWeb)
                for ask in CALLED:
                    self.assertEqual(refusal(ask, thing, calls, None)[0], NoWeb)

    def test_back(self):
        self.told(calls_back(PATH, TURNED), [(1, 9), (3, 4), (4, 3), (9, 1)])
        self.told(calls_back(PATH, [(1, 7), (3, 500), (4, 0), (9, 9)]), [(0, 4), (7, 1), (9, 9), (500, 3)])
        self.told(calls_back(EMPTY, []), [])
        rng = random.Random(262)
        for _ in range(50):
            web = chance_web(rng)
            for calls in some_calls(rng, web):
                there = called_web(web, calls)
                behind = calls_back(web, calls)
                self.assertIsNone(look_at_calls(there, behind))
                self.told(called_web(there, behind), web)
                self.told(calls_back(there, behind), calls)


class TestCalled(CallsCase):
    def test_webs(self):
        self.told(called_web(PATH, TURNED), ([(1, 1), (3, 7), (4, 2), (9, 5)], [(1, 3), (3, 4), (4, 9)]))
        self.told(called_web(PATH, [(1, 7), (3, 500), (4, 0), (9, 9)]),
                  ([(0, 7), (7, 5), (9, 1), (500, 2)], [(0, 9), (0, 500), (7, 500)]))
        self.told(called_web(EMPTY, []), ([], []))
        rng = random.Random(263)
        for _ in range(60):
            web = chance_web(rng, many=rng.choice([0, 1, 5, 12, 40]))
            for calls in some_calls(rng, web):
                self.told(called_web(web, calls), renamed(web, dict(calls)))

    def test_sets(self):
        self.told(called_set(PATH, TURNED, [1, 3, 9]), [1, 4, 9])
        self.told(called_set(PATH, TURNED, []), [])
        rng = random.Random(264)
        for _ in range(40):
            web = chance_web(rng)
            for calls in some_calls(rng, web):
                there = called_web(web, calls)
                for some in touching_sets(web)[:6]:
                    told = self.there_and_back(called_set, web, calls, some)
                    self.assertTrue(is_set(there, told) and not left_by(there, told))
                    self.assertEqual(cost_of(there, told), cost(web, some))

    def test_rows(self):
        rows = [("all", [0, 1, 2], 2), ("ring", [1, 0, 2], 1), ("all", [0, 2], 1), ("all", [0, 2], 1)]
        calls = [(0, 8), (1, 5), (2, 6)]
        self.told(called_rows(TRIANGLE, calls, rows),
                  [("all", [5, 6, 8], 2), ("ring", [5, 8, 6], 1), ("all", [6, 8], 1), ("all", [6, 8], 1)])
        self.told(called_rows(TRIANGLE, calls, []), [])
        five = ring_of(5)
        self.told(called_rows(five, turned(five), [("ring", [3, 4, 0, 1, 2], 2)]),
                  [("ring", [978, 971, 999, 992, 985], 2)])

    def test_rows_by_chance(self):
        rng = random.Random(265)
        rings = 0
        for _ in range(150):
            web = chance_web(rng, density=rng.choice([0.5, 0.9]))
            rows = chance_rows(rng, web)
            rings += any(row[0] == "ring" for row in rows)
            for calls in some_calls(rng, web):
                there = called_web(web, calls)
                told = self.there_and_back(called_rows, web, calls, rows)
                self.assertIsNone(look_at_rows(there, told))
                self.assertEqual(worth_of(there, told), worth_of(web, rows))
                for some in touching_sets(web)[:4]:
                    self.assertEqual(is_tight(there, told, called_set(web, calls, some)), is_tight(web, rows, some))
        self.assertGreater(rings, 20)

    def test_halves_dues_and_chains(self):
        self.told(called_halves(PATH, TURNED, [(1, 0), (3, 2), (4, 0), (9, 2)]), [(1, 2), (3, 0), (4, 2), (9, 0)])
        self.told(called_dues(PATH, TURNED, [(1, 3, 4), (4, 9, 2)]), [(1, 3, 2), (4, 9, 4)])
        self.told(called_dues(PATH, [(1, 7), (3, 500), (4, 0), (9, 9)], [(1, 3, 4), (4, 9, 2)]),
                  [(0, 9, 2), (7, 500, 4)])
        chain = [("loose", 1), ("beside", 1, 3), ("tight", 3, 1), ("loose", 1)]
        self.told(called_chain(PATH, TURNED, chain), [("loose", 9), ("beside", 9, 4), ("tight", 4, 9), ("loose", 9)])
        for ask in (called_halves, called_dues, called_chain):
            self.told(ask(EMPTY, [], []), [])

    def test_papers_by_chance(self):
        rng = random.Random(266)
        for _ in range(80):
            web = chance_web(rng, many=rng.choice([0, 3, 6, 9, 20]), most_price=rng.choice([2, 9]))
            paper = fixed_paper(web)
            for calls in some_calls(rng, web):
                there = called_web(web, calls)
                halves = self.there_and_back(called_halves, web, calls, paper[0])
                dues = self.there_and_back(called_dues, web, calls, paper[1])
                chain = self.there_and_back(called_chain, web, calls, paper[2])
                self.assertTrue(lets_halves(there, (halves, dues)))
                self.assertTrue(lets_fixed(there, (halves, dues, chain)))
                self.told(fixed_by(chain), tuple(called_set(web, calls, some) for some in fixed_by(paper[2])))
                self.assertEqual(halves_cost(there, halves), halves_cost(web, paper[0]))


class TestSteps(CallsCase):
    def test_words(self):
        self.told(called_step(PATH, TURNED, ("near", 1)), ("near", 9))
        self.told(called_step(PATH, TURNED, ("over", 1, 3)), ("over", 9, 4))
        # Of twins u and v stay where they stand, also where their numbers turn about.
        twins = ([(0, 1), (1, 2), (2, 3)], [(0, 1), (1, 2)])
        self.told(called_step(twins, [(0, 9), (1, 8), (2, 7)], ("twins", 0, 2)), ("twins", 9, 7))
        paper = ([(1, 0), (3, 2), (4, 0), (9, 2)], [(1, 3, 4), (4, 9, 2)])
        self.told(called_step(PATH, TURNED, ("halves", paper)),
                  ("halves", ([(1, 2), (3, 0), (4, 2), (9, 0)], [(1, 3, 2), (4, 9, 4)])))

    def test_all_words_by_chance(self):
        rng = random.Random(267)
        met = {}
        for _ in range(120):
            web = chance_web(rng, many=rng.randint(1, 7), most_price=rng.choice([2, 3, 9]), density=rng.random())
            for step in all_steps(web):
                calls = rng.choice(some_calls(rng, web))
                met[step[0]] = met.get(step[0], 0) + 1
                self.check(web, calls, step)
        self.assertEqual(sorted(met), ["fold", "halves", "leaf", "lone", "near", "over", "twins"])
        self.assertGreater(min(met.values()), 10)

    def check(self, web, calls, step):
        there = called_web(web, calls)
        told = self.there_and_back(called_step, web, calls, step)
        self.assertTrue(fits(there, told))
        small, added = after(web, step)
        left = [pair for pair in calls if pair[0] in dict(small[0])]
        self.told(after(there, told), (called_web(small, left), added))
        for some in touching_sets(small)[:3]:
            self.told(back(there, told, called_set(small, left, some)), called_set(web, calls, back(web, step, some)))
        for some in touching_sets(web)[:3]:
            self.told(forth(there, told, called_set(web, calls, some)), called_set(small, left, forth(web, step, some)))


class TestTrees(CallsCase):
    def test_words(self):
        self.told(called_tree(PATH, TURNED, NOTHING), NOTHING)
        self.told(called_tree(PATH, TURNED, ("bound", [("all", [1, 3], 4)])), ("bound", [("all", [4, 9], 4)]))
        self.told(called_tree(PATH, TURNED, ("step", ("near", 1), ("bound", [("all", [4, 9], 2)]))),
                  ("step", ("near", 9), ("bound", [("all", [1, 3], 2)])))
        self.told(called_tree(PATH, TURNED, ("split", 3, ("bound", [("all", [4, 9], 2)]), NOTHING)),
                  ("split", 4, ("bound", [("all", [1, 3], 2)]), NOTHING))
        self.told(called_tree(EMPTY, [], ("parts", [])), ("parts", []))

    def test_parts_in_the_order_of_the_new_least_places(self):
        trees = [("bound", [("all", [0, 8], 2), ("all", [5, 8], 6)]), ("bound", [("all", [2, 999], 2)]), NOTHING]
        calls = [(0, 50), (2, 40), (5, 60), (7, 30), (8, 7), (999, 20)]
        self.told(called_tree(SCATTERED, calls, ("parts", trees)),
                  ("parts", [("bound", [("all", [7, 50], 2), ("all", [7, 60], 6)]), ("bound", [("all", [20, 40], 2)]),
                             NOTHING]))
        calls = [(0, 50), (2, 40), (5, 60), (7, 3), (8, 70), (999, 20)]
        self.told(called_tree(SCATTERED, calls, ("parts", trees)),
                  ("parts", [NOTHING, ("bound", [("all", [20, 40], 2)]),
                             ("bound", [("all", [50, 70], 2), ("all", [60, 70], 6)])]))

    # The parts of the smaller web are told by the places that are left.
    def test_parts_behind_a_split(self):
        tree = ("split", 3, ("parts", [("split", 1, NOTHING, NOTHING), ("bound", [("all", [4, 9], 2)])]),
                ("parts", [("step", ("lone", 9), ("parts", []))]))
        self.told(called_tree(PATH, TURNED, tree),
                  ("split", 4, ("parts", [("bound", [("all", [1, 3], 2)]), ("split", 9, NOTHING, NOTHING)]),
                   ("parts", [("step", ("lone", 1), ("parts", []))])))

    def test_by_chance(self):
        rng = random.Random(268)
        met = set()
        for _ in range(250):
            web = chance_web(rng, many=rng.randint(0, 9), most_price=rng.choice([2, 3, 9]), density=rng.random())
            tree = standing_tree(rng, web)
            met |= words_in(tree)
            for calls in some_calls(rng, web):
                self.check(web, calls, tree)
        self.assertEqual(sorted(met), sorted(["bound", "step", "parts", "split", "all", "ring", "lone", "near", "leaf",
                                              "over", "twins", "fold", "halves"]))

    def check(self, web, calls, tree):
        told = self.there_and_back(called_tree, web, calls, tree)
        self.told(told, tree_called(web, dict(calls), tree))
        self.assertEqual(claim_of(called_web(web, calls), told), claim_of(web, tree))

    def test_told_trees(self):
        rng = random.Random(269)
        webs = [five_by_five(2), beside_each_other([ring_of(9), line_of(9), ring_of(5)]), line_of(40)]
        webs += [chance_web(rng, many=rng.choice([10, 16]), most_price=3, density=0.3) for _ in range(10)]
        for web in webs:
            for most in (3, 400, 1000):
                self.check(web, chance_calls(rng, web), least_of(web, most)[-1])

    def test_a_hundred_within_one_another(self):
        tree = NOTHING
        for _ in range(99):
            tree = ("parts", [tree])
        self.check(PATH, TURNED, tree)
        tree = NOTHING
        for place in range(40):
            tree = ("split", place, NOTHING, tree)
        self.check(([(k, 1) for k in range(40)], []), turned(line_of(40)), tree)

    def test_a_thousand_tuples(self):
        web = ([(k, 1) for k in range(40)], [])
        trees = []
        for at in range(40):
            tree = NOTHING
            for _ in range(62 if at == 0 else 23):
                tree = ("parts", [tree])
            trees.append(tree)
        self.assertEqual(many_tuples(("parts", trees)), 1000)
        self.check(web, turned(web), ("parts", trees))


class TestAlike(CallsCase):
    def test_what_is_told_of_both_webs(self):
        rng = random.Random(270)
        for _ in range(60):
            web = chance_web(rng, many=rng.randint(0, 8), most_price=rng.choice([1, 2, 9]))
            for calls in some_calls(rng, web):
                there = called_web(web, calls)
                self.told(halves_of(there)[0], called_halves(web, calls, halves_of(web)[0]))
                self.told(fixed_of(there), tuple(called_set(web, calls, some) for some in fixed_of(web)))
                self.edges(web, calls, there)
                self.counts(web, calls, there)
                self.assertEqual(least_cost(there), least_cost(web))

    def edges(self, web, calls, there):
        for place, number in calls[:2]:
            told = edge_of(web, place, 400)
            self.told(edge_of(there, number, 400)[:3], told[:3])
            left = [pair for pair in calls if pair[0] != place]
            less = less_places(web, [place])
            far = [pair for pair in left if pair[0] not in nears_of(web)[place]]
            lesser = less_places(less, nears_of(web)[place])
            thing = told[:3] + (called_set(less, left, told[3]), called_set(lesser, far, told[4]),
                                called_tree(less, left, told[5]), called_tree(lesser, far, told[6]))
            self.assertIs(lets_edge(there, number, thing), True)

    def counts(self, web, calls, there):
        if refusal(string_least, web) is None and refusal(string_least, there) is None:
            one, other = string_least(web), string_least(there)
            self.assertEqual(one[:2], other[:2])
            self.told(called_halves(web, calls, one[3]), other[3])

    def test_groves(self):
        rng = random.Random(271)
        for _ in range(20):
            web = grove(rng, 40, rng.choice([1, 2]), roots=3)
            for calls in some_calls(rng, web):
                self.assertEqual(forest_least(web)[:2], forest_least(called_web(web, calls))[:2])

    def test_steps_that_make_small(self):
        rng = random.Random(272)
        for _ in range(30):
            web = chance_web(rng, many=9, most_price=4, density=0.3)
            here, left = web, chance_calls(rng, web)
            for step in made_small(web):
                self.assertTrue(fits(called_web(here, left), called_step(here, left, step)))
                here = after(here, step)[0]
                left = [pair for pair in left if pair[0] in dict(here[0])]


class TestOwn(CallsCase):
    def test_nothing_is_changed_kept_or_shared(self):
        rng = random.Random(273)
        for _ in range(40):
            web = chance_web(rng, many=6, density=0.6)
            calls = chance_calls(rng, web)
            paper = fixed_paper(web)
            steps = all_steps(web)
            row = ("all", list(web[1][0]), 1) if web[1] else None
            rows = [row, row] if row else []
            tree = ("split", web[0][0][0], NOTHING, NOTHING)
            given = [(called_rows, rows), (called_halves, paper[0]), (called_dues, paper[1]), (called_chain, paper[2]),
                     (called_tree, tree), (called_tree, ("bound", rows)), (called_tree, standing_tree(rng, web)),
                     (called_set, [place for place, _ in web[0]])] + [(called_step, step) for step in steps]
            for ask, thing in given:
                ahead = copied((web, calls, thing))
                told = ask(web, calls, thing)
                self.told((web, calls, thing), ahead)
                found = [id(one) for one in lists_in(told)]
                self.assertEqual(len(found), len(set(found)))
                self.assertFalse(set(found) & {id(one) for one in lists_in((web, calls, thing))})


if __name__ == "__main__":
    unittest.main()
