import random
import unittest

from tests.helping import (ANYTHING, EMPTY, NO_WEBS, PATH, SCATTERED, alike, chance_web, copied, cost, least_cost,
                           line_of, refusal, step_reads, step_tries, touches, touching_sets)
from touchall.errors import NoSet, NoStep, NoWeb
from touchall.halves import halves_of
from touchall.sets import is_set
from touchall.shrinking import made_small
from touchall.walks import back_all, forth_all, walked

def any_steps(rng, web):
    """Steps that fit one behind another, taken by chance, of as many words as may be."""
    steps = []
    here = web
    while rng.random() < 0.9:
        tries = [step for step in step_tries(here) if step_reads(here, step) is not None]
        if not tries or rng.random() < 0.1:
            tries = [("halves", halves_of(here))]
        words = sorted({step[0] for step in tries})
        word = rng.choice(words)
        step = rng.choice([step for step in tries if step[0] == word])
        read = step_reads(here, step)
        if read is None:
            break
        steps.append(step)
        here = read[0]
    return steps


def read_walk(web, steps):
    added = 0
    for step in steps:
        web, more = step_reads(web, step)
        added += more
    return web, added


class WalksCase(unittest.TestCase):
    def stops(self, web, steps, at):
        self.assertEqual(refusal(walked, web, steps), (NoStep, {"at": at}), steps)
        for some in ([place for place, _ in web[0]], [], None, [[1]]):
            self.assertEqual(refusal(back_all, web, steps, some), (NoStep, {"at": at}))
            self.assertEqual(refusal(forth_all, web, steps, some), (NoStep, {"at": at}))


class TestWalked(WalksCase):
    def test_no_steps(self):
        for web in (EMPTY, PATH, SCATTERED, line_of(40)):
            self.assertTrue(alike(walked(web, []), (web, 0)))
            told = walked(web, [])[0]
            self.assertTrue(told[0] is not web[0] and told[1] is not web[1])

    def test_a_few(self):
        self.assertTrue(alike(walked(PATH, [("near", 1)]), (([(4, 7), (9, 1)], [(4, 9)]), 2)))
        self.assertTrue(alike(walked(PATH, [("near", 1), ("leaf", 9)]), (([(4, 6)], []), 3)))
        self.assertTrue(alike(walked(PATH, [("near", 1), ("leaf", 9), ("lone", 4)]), (([], []), 3)))

    def test_all_seven_words(self):
        web = ([(0, 1), (1, 2), (2, 5), (3, 5), (4, 5), (5, 6), (6, 3), (7, 4), (8, 4), (9, 4), (10, 5), (11, 3),
                (12, 9), (13, 4), (14, 6), (15, 6)],
               [(1, 2), (3, 4), (3, 5), (4, 5), (6, 7), (6, 8), (7, 9), (8, 9), (10, 11), (10, 13), (11, 12),
                (12, 13), (14, 15)])
        steps = [("lone", 0), ("leaf", 1), ("over", 5, 4), ("near", 5), ("twins", 7, 8), ("fold", 10)]
        last, added = read_walk(web, steps)
        steps.append(("halves", halves_of(last)))
        self.assertEqual({step[0] for step in steps}, {"lone", "leaf", "over", "near", "twins", "fold", "halves"})
        read = read_walk(web, steps)
        self.assertTrue(alike(walked(web, steps), read))
        self.assertEqual(least_cost(web), least_cost(read[0]) + read[1])

    def test_a_thing_that_does_not_fit(self):
        steps = [("near", 1), ("leaf", 9), ("lone", 4)]
        for thing in ANYTHING + [("lone", 1), ("near", 3), ("halves", None), ("fold", 1), ("leaf", 4)]:
            for at in range(4):
                self.stops(PATH, steps[:at] + [thing] + steps[at:], at)
        for at in range(3):
            self.stops(PATH, steps[:at] + [("lone", 1)] + steps[at + 1:], at)

    def test_the_first_of_several(self):
        self.stops(PATH, [("near", 1), None, ("lone", 1), ("leaf", 9)], 1)
        self.stops(PATH, [None] * 3, 0)
        self.stops(PATH, [("near", 1), ("leaf", 9), ("lone", 4)] + [None] * 500, 3)

    def test_told_twice_and_out_of_order(self):
        self.stops(PATH, [("near", 1), ("near", 1)], 1)
        self.stops(PATH, [("leaf", 9), ("leaf", 9)], 1)
        self.stops(PATH, [("lone", 4), ("near", 1), ("leaf", 9)], 0)
        self.stops(EMPTY, [("halves", ([], []))], 0)

    def test_what_is_no_list(self):
        for thing in ANYTHING + [(("near", 1),), ("near", 1), "near", {0: ("near", 1)}]:
            if not isinstance(thing, list):
                self.stops(PATH, thing, None)
                self.stops(EMPTY, thing, None)

    def test_no_web_goes_ahead(self):
        for thing in NO_WEBS:
            for steps in ([], None, [None]):
                self.assertEqual(refusal(walked, thing, steps)[0], NoWeb)
                self.assertEqual(refusal(back_all, thing, steps, None)[0], NoWeb)
                self.assertEqual(refusal(forth_all, thing, steps, None)[0], NoWeb)

    def test_by_chance(self):
        rng = random.Random(71)
        met = {}
        for _ in range(400):
            web = chance_web(rng, many=rng.randrange(1, 8), most_price=rng.choice([1, 2, 4, 9]))
            steps = any_steps(rng, web)
            for step in steps:
                met[step[0]] = met.get(step[0], 0) + 1
            self.assertTrue(alike(walked(web, steps), read_walk(web, steps)))
            self.assertEqual(least_cost(web), least_cost(walked(web, steps)[0]) + walked(web, steps)[1])
        self.assertEqual(len(met), 7)
        self.assertGreater(min(met.values()), 5)


class TestBackAndForth(WalksCase):
    def test_a_few(self):
        steps = [("near", 1), ("leaf", 9)]
        self.assertTrue(alike(back_all(PATH, steps, []), [3, 9]))
        self.assertTrue(alike(back_all(PATH, steps, [4]), [3, 4]))
        self.assertTrue(alike(forth_all(PATH, steps, [3, 9]), []))
        self.assertTrue(alike(forth_all(PATH, steps, [1, 4]), [4]))

    def test_no_steps(self):
        for web in (EMPTY, PATH, SCATTERED):
            for some in touching_sets(web):
                for ask in (back_all, forth_all):
                    told = ask(web, [], some)
                    self.assertTrue(alike(told, some))
                    self.assertIsNot(told, some)

    def test_what_is_no_touching_set(self):
        for some in ANYTHING + [[4, 3], [3, 3], (3, 4), [3], [4], [3, True, 4], [2, 3, 4], [3, 4, 1000], ["3", 4]]:
            self.assertEqual(refusal(forth_all, PATH, [], some), (NoSet, {}), some)
            self.assertEqual(refusal(back_all, PATH, [], some), (NoSet, {}), some)
            self.assertEqual(refusal(forth_all, PATH, [("near", 1)], some), (NoSet, {}), some)
        for some in ANYTHING + [[3, 4], [9, 4], [1], [4, 4], (4,), []]:
            self.assertEqual(refusal(back_all, PATH, [("near", 1)], some), (NoSet, {}), some)

    def test_through_all_steps(self):
        rng = random.Random(72)
        long = 0
        for _ in range(150):
            web = chance_web(rng, many=rng.randrange(1, 8), most_price=rng.choice([1, 2, 4, 9]))
            steps = any_steps(rng, web)
            last, added = walked(web, steps)
            long += len(steps) > 3
            for some in touching_sets(last):
                got = back_all(web, steps, some)
                self.assertTrue(is_set(web, got) and touches(web, got))
                self.assertEqual(cost(web, got), cost(last, some) + added)
            for some in touching_sets(web):
                got = forth_all(web, steps, some)
                self.assertTrue(is_set(last, got) and touches(last, got))
                self.assertLessEqual(cost(last, got) + added, cost(web, some))
        self.assertGreater(long, 20)

    def test_webs_of_forty_places(self):
        rng = random.Random(73)
        for _ in range(6):
            web = chance_web(rng, many=40, most_price=rng.choice([1, 9, 10 ** 10]), density=rng.choice([0.03, 0.06]))
            steps = made_small(web)
            last, added = walked(web, steps)
            some = [place for place, _ in last[0]]
            got = back_all(web, steps, some)
            self.assertTrue(touches(web, got))
            self.assertEqual(cost(web, got), cost(last, some) + added)
            whole = [place for place, _ in web[0]]
            self.assertTrue(touches(last, forth_all(web, steps, whole)))

    def test_what_is_handed_in_stays(self):
        web, steps, some = copied(PATH), [("near", 1), ("halves", ([(4, 0), (9, 2)], [(4, 9, 2)]))], [1, 3, 4]
        ahead = copied((web, steps, some))
        walked(web, steps)
        forth_all(web, steps, some)
        back_all(web, steps, [])
        self.assertTrue(alike((web, steps, some), ahead))


if __name__ == "__main__":
    unittest.main()
