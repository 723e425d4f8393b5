import itertools
import random
import unittest

from tests.helping import (ANYTHING, EMPTY, NO_WEBS, OTHER, PATH, SCATTERED, TRIANGLE, alike, chance_web, copied, cost,
                           full_ties, is_number, least_cost, less_places, line_of, lists_in, refusal, repriced,
                           ring_of, touches)
from touchall.errors import Bare, NoDeed, NoPlace, NoWeb, TooMany
from touchall.keeper import Keeper
from touchall.sets import is_set
from touchall.trees import claim_of
from touchall.webs import look_at_web

TEN = ([(k, 5) for k in range(10)], [(0, 1), (2, 3)])


def all_told(keeper):
    return (keeper.web(), keeper.kept(), keeper.least(), keeper.tree())


def web_behind(web, deed, given):
    """A plain reading of a deed that is let: the web behind it."""
    if deed == "put_place":
        return (sorted(web[0] + [given]), web[1])
    if deed == "take_place":
        return less_places(web, given)
    if deed == "put_tie":
        return (web[0], sorted(web[1] + [tuple(sorted(given))]))
    if deed == "take_tie":
        return (web[0], [tie for tie in web[1] if tie != tuple(sorted(given))])
    return repriced(web, *given)


def is_no_place(web, thing):
    return not is_number(thing) or thing not in dict(web[0])


def is_web(thing):
    return refusal(look_at_web, thing) is None


def wanted_refusal(web, deed, given):
    """A plain reading of what is refused: the class and its fields, or None."""
    places = {"put_place": (), "take_place": given, "set_price": given[:1]}.get(deed, given)
    for thing in places:
        if is_no_place(web, thing):
            return (NoPlace, {"place": thing})
    if deed in ("put_tie", "take_tie"):
        there = tuple(sorted(given)) in web[1]
        if given[0] == given[1] or there == (deed == "put_tie"):
            return (NoDeed, {})
    if deed == "put_place":
        if not is_no_place(web, given[0]) or not is_number(given[0]) or not is_web(web_behind(web, deed, given)):
            return (NoDeed, {})
        if len(web[0]) == 10:
            return (TooMany, {})
    if deed == "set_price" and not is_web(web_behind(web, deed, given)):
        return (NoDeed, {})
    return None


class KeeperCase(unittest.TestCase):
    def sound(self, keeper, web):
        """What a keeper of this web tells, against a new reckoning."""
        self.assertTrue(alike(keeper.web(), web), (keeper.web(), web))
        some = keeper.kept()
        self.assertTrue(is_set(web, some) and touches(web, some))
        least = least_cost(web)
        self.assertTrue(alike(keeper.least(), least))
        self.assertEqual(cost(web, some), least)
        self.assertTrue(alike(claim_of(web, keeper.tree()), least))
        self.assertEqual(Keeper(web).least(), least)

    def refused(self, keeper, deed, given, wanted):
        ahead = copied(all_told(keeper))
        found = refusal(getattr(keeper, deed), *given)
        self.assertIsNotNone(found, (deed, given))
        self.assertEqual(found[0], wanted[0], (deed, given))
        if wanted[0] == NoPlace:
            self.assertEqual(list(found[1]), ["place"])
            mine, told = wanted[1]["place"], found[1]["place"]
            self.assertTrue(mine is told or alike(mine, told))
        self.assertTrue(alike(all_told(keeper), ahead), (deed, given))

    def do(self, keeper, deed, given):
        """A deed, checked whether it is let, what is told, and what is behind it."""
        web, kept = keeper.web(), keeper.kept()
        wanted = wanted_refusal(web, deed, given)
        if wanted is not None:
            self.refused(keeper, deed, given, wanted)
            return None
        behind = web_behind(web, deed, given)
        left = [place for place in kept if place in dict(behind[0])]
        stays = touches(behind, left) and cost(behind, left) == least_cost(behind)
        told = getattr(keeper, deed)(*given)
        self.assertIs(told, stays, (web, kept, deed, given))
        if stays:
            self.assertTrue(alike(keeper.kept(), left))
        self.sound(keeper, behind)
        return told


class TestDeeds(KeeperCase):
    def test_made(self):
        for web in (EMPTY, PATH, TRIANGLE, SCATTERED, TEN, ring_of(10), ([(7, 10 ** 12)], [])):
            self.sound(Keeper(web), web)
        self.assertTrue(alike(Keeper(PATH).kept(), [3, 9]))
        self.assertTrue(alike(Keeper(EMPTY).kept(), []))

    def test_too_many_places_to_be_made(self):
        for many in (11, 12, 40):
            self.assertEqual(refusal(Keeper, line_of(many))[0], TooMany)
            self.assertEqual(refusal(Keeper, ([(k, 1) for k in range(many)], []))[0], TooMany)
        self.assertIsNone(refusal(Keeper, line_of(10)))

    def test_no_web_goes_ahead(self):
        for thing in NO_WEBS + [line_of(41), ([(k, 0) for k in range(11)], [])]:
            self.assertEqual(refusal(Keeper, thing)[0], NoWeb)

    def test_put_place(self):
        keeper = Keeper(PATH)
        self.assertIs(self.do(keeper, "put_place", (2, 6)), True)
        self.assertIs(self.do(keeper, "put_place", (0, 1)), True)
        self.assertIs(self.do(keeper, "put_place", (999, 10 ** 12 - 22)), True)
        self.assertTrue(alike(keeper.kept(), [3, 9]))

    def test_put_place_refused(self):
        keeper = Keeper(PATH)
        for place in ANYTHING + [-1, 1000, 1, 3, "2", [2], (2,)]:
            if not is_number(place) or place in (1, 3) or not 0 <= place <= 999:
                self.refused(keeper, "put_place", (place, 1), (NoDeed,))
        for price in ANYTHING + [0, -1, 10 ** 12 - 14]:
            if not is_number(price) or price < 1 or price > 10 ** 12 - 15:
                self.refused(keeper, "put_place", (2, price), (NoDeed,))
        for thing in (None, OTHER, [1], True):
            self.refused(keeper, "put_place", (thing, thing), (NoDeed,))
        for price in ANYTHING:
            self.refused(keeper, "put_place", (3, price), (NoDeed,))

    def test_the_tenth_and_the_eleventh_place(self):
        keeper = Keeper(line_of(9))
        self.do(keeper, "put_place", (20, 4))
        self.refused(keeper, "put_place", (21, 4), (TooMany,))
        # What would make no web, or is there already, goes ahead of that.
        for place, price in ((20, 4), (3, 1), (1000, 1), (-1, 1), (21, 0), (21, None), (None, 1), (21, 10 ** 12)):
            self.refused(keeper, "put_place", (place, price), (NoDeed,))
        self.do(keeper, "take_place", (4,))
        self.do(keeper, "put_place", (21, 4))
        self.refused(keeper, "put_place", (22, 4), (TooMany,))
        keeper.undo()
        self.do(keeper, "put_place", (22, 4))

    def test_take_place(self):
        keeper = Keeper(PATH)
        self.assertIs(self.do(keeper, "take_place", (3,)), True)
        self.assertTrue(alike((keeper.kept(), keeper.web()), ([9], ([(1, 5), (4, 7), (9, 1)], [(4, 9)]))))
        self.assertIs(self.do(keeper, "take_place", (4,)), False)
        self.assertTrue(alike(keeper.kept(), []))
        for place in (1, 9):
            self.do(keeper, "take_place", (place,))
        self.assertTrue(alike(all_told(keeper)[:3], (([], []), [], 0)))
        self.refused(keeper, "take_place", (1,), (NoPlace, {"place": 1}))

    def test_what_is_no_place(self):
        for web in (PATH, EMPTY):
            keeper = Keeper(web)
            for thing in ANYTHING + [2, 1000, [1], (3,), "3"]:
                if is_no_place(web, thing):
                    self.no_place(keeper, thing)

    def no_place(self, keeper, thing):
        wanted = (NoPlace, {"place": thing})
        self.refused(keeper, "take_place", (thing,), wanted)
        for other in (1, 3, thing, None):
            self.refused(keeper, "put_tie", (thing, other), wanted)
            self.refused(keeper, "take_tie", (thing, other), wanted)
        for price in (1, 0, None, True, [1]):
            self.refused(keeper, "set_price", (thing, price), wanted)
        if keeper.web()[0]:
            self.refused(keeper, "put_tie", (3, thing), wanted)
            self.refused(keeper, "take_tie", (3, thing), wanted)

    def test_put_tie(self):
        keeper = Keeper(PATH)
        self.assertIs(self.do(keeper, "put_tie", (1, 9)), True)
        self.assertIs(self.do(keeper, "put_tie", (4, 1)), False)
        self.refused(keeper, "put_tie", (4, 1), (NoDeed,))
        self.refused(keeper, "put_tie", (1, 4), (NoDeed,))
        self.refused(keeper, "put_tie", (3, 1), (NoDeed,))
        self.refused(keeper, "put_tie", (1, 3), (NoDeed,))
        for place in (1, 3, 4, 9):
            self.refused(keeper, "put_tie", (place, place), (NoDeed,))
        self.refused(keeper, "put_tie", (5, 5), (NoPlace, {"place": 5}))
        self.refused(keeper, "put_tie", (2, 5), (NoPlace, {"place": 2}))
        self.refused(keeper, "put_tie", (True, None), (NoPlace, {"place": True}))

    # What is left of the set costs as little as a cheapest one, but leaves the new tie.
    def test_a_set_as_cheap_that_leaves_the_tie(self):
        keeper = Keeper(([(0, 1), (1, 1), (2, 1)], [(0, 1)]))
        held = keeper.kept()[0]
        self.assertIs(self.do(keeper, "put_tie", (2, 1 - held)), False)
        self.assertTrue(alike(keeper.kept(), [1 - held]))

    def test_take_tie(self):
        keeper = Keeper(PATH)
        for one, other in ((1, 4), (4, 1), (1, 9), (3, 3), (9, 9)):
            self.refused(keeper, "take_tie", (one, other), (NoDeed,))
        self.assertIs(self.do(keeper, "take_tie", (4, 3)), True)
        self.assertIs(self.do(keeper, "take_tie", (1, 3)), False)
        self.assertIs(self.do(keeper, "take_tie", (9, 4)), False)
        for one, other in ((4, 3), (3, 4)):
            self.refused(keeper, "take_tie", (one, other), (NoDeed,))

    def test_set_price(self):
        keeper = Keeper(PATH)
        self.assertIs(self.do(keeper, "set_price", (3, 2)), True)
        self.assertIs(self.do(keeper, "set_price", (3, 1)), True)
        self.assertIs(self.do(keeper, "set_price", (3, 5)), True)
        self.assertIs(self.do(keeper, "set_price", (3, 13)), False)
        self.assertIs(self.do(keeper, "set_price", (3, 12)), True)
        self.assertIs(self.do(keeper, "set_price", (4, 10 ** 12 - 18)), False)
        for price in ANYTHING + [0, -1, 10 ** 12 - 17]:
            if not is_number(price) or price < 1 or price > 10 ** 12 - 18:
                self.refused(keeper, "set_price", (4, price), (NoDeed,))

    def test_all_ties_of_ten_places(self):
        keeper = Keeper(([(k, 1 + k % 3) for k in range(10)], []))
        pairs = list(itertools.combinations(range(10), 2))
        random.Random(281).shuffle(pairs)
        for at, pair in enumerate(pairs):
            told = keeper.put_tie(*(pair if at % 2 else pair[::-1]))
            self.assertIs(type(told), bool)
        self.sound(keeper, ([(k, 1 + k % 3) for k in range(10)], full_ties(10, 45)))


class TestUndo(KeeperCase):
    def test_bare(self):
        keeper = Keeper(PATH)
        self.refused(keeper, "undo", (), (Bare,))
        keeper.put_place(2, 2)
        self.assertIsNone(keeper.undo())
        self.refused(keeper, "undo", (), (Bare,))

    def test_behind_each_deed(self):
        for deed, given in (("put_place", (2, 2)), ("take_place", (3,)), ("put_tie", (1, 4)), ("put_tie", (9, 3)),
                            ("take_tie", (3, 1)), ("set_price", (3, 100)), ("set_price", (3, 2))):
            keeper = Keeper(PATH)
            ahead = copied((keeper.web(), keeper.kept(), keeper.least()))
            self.assertIsNotNone(self.do(keeper, deed, given))
            self.assertIsNone(keeper.undo())
            self.assertTrue(alike((keeper.web(), keeper.kept(), keeper.least()), ahead))
            self.sound(keeper, PATH)
            self.refused(keeper, "undo", (), (Bare,))

    # The set ahead of the deed comes again, not any other cheapest one.
    def test_the_very_set(self):
        keeper = Keeper(ring_of(4))
        ahead = keeper.kept()
        self.assertIs(self.do(keeper, "set_price", (ahead[0], 5)), False)
        other = keeper.kept()
        self.assertNotEqual(other, ahead)
        self.assertIs(self.do(keeper, "set_price", (ahead[0], 1)), True)
        self.assertTrue(alike(keeper.kept(), other))
        keeper.undo()
        self.assertTrue(alike(keeper.kept(), other))
        keeper.undo()
        self.assertTrue(alike(keeper.kept(), ahead))

    def test_what_is_refused_is_no_deed(self):
        keeper = Keeper(PATH)
        keeper.put_tie(1, 4)
        for deed, given in (("put_tie", (1, 4)), ("take_place", (2,)), ("set_price", (1, 0)), ("put_place", (1, 1)),
                            ("take_tie", (1, 1))):
            self.assertIsNotNone(refusal(getattr(keeper, deed), *given))
        keeper.undo()
        self.sound(keeper, PATH)
        self.refused(keeper, "undo", (), (Bare,))

    def test_several_times_with_deeds_between(self):
        keeper = Keeper(EMPTY)
        keeper.put_place(1, 3)
        keeper.put_place(2, 3)
        keeper.put_tie(2, 1)
        keeper.undo()
        keeper.undo()
        self.sound(keeper, ([(1, 3)], []))
        keeper.put_place(5, 1)
        keeper.put_tie(1, 5)
        self.sound(keeper, ([(1, 3), (5, 1)], [(1, 5)]))
        for web in (([(1, 3), (5, 1)], []), ([(1, 3)], []), EMPTY):
            keeper.undo()
            self.sound(keeper, web)
        self.refused(keeper, "undo", (), (Bare,))


class TestByChance(KeeperCase):
    def chance_deed(self, rng, web):
        numbers = [place for place, _ in web[0]] + [rng.randrange(1000), 1000]
        deed = rng.choice(["put_place", "take_place", "put_tie", "put_tie", "put_tie", "take_tie", "set_price"])
        if deed in ("put_place", "set_price"):
            return deed, (rng.choice(numbers), rng.choice([0, 1, 1, 2, 3, 4, 9, 10 ** 12, True]))
        if deed == "take_place":
            return deed, (rng.choice(numbers),)
        if deed == "take_tie" and web[1] and rng.random() < 0.8:
            tie = rng.choice(web[1])
            return deed, tie[::-1] if rng.random() < 0.5 else tie
        return deed, (rng.choice(numbers), rng.choice(numbers))

    def test_deeds(self):
        rng = random.Random(282)
        met = {}
        for _ in range(25):
            web = chance_web(rng, many=rng.randint(0, 7), most_price=4)
            keeper, past = Keeper(web), []
            for _ in range(25):
                if past and rng.random() < 0.2:
                    self.assertIsNone(keeper.undo())
                    self.assertTrue(alike((keeper.web(), keeper.kept()), past.pop()))
                    continue
                deed, given = self.chance_deed(rng, keeper.web())
                ahead = (keeper.web(), keeper.kept())
                told = self.do(keeper, deed, given)
                met[(deed, told)] = met.get((deed, told), 0) + 1
                if told is not None:
                    past.append(ahead)
            while past:
                keeper.undo()
                self.assertTrue(alike((keeper.web(), keeper.kept()), past.pop()))
            self.refused(keeper, "undo", (), (Bare,))
        for deed in ("put_place", "take_place", "put_tie", "take_tie", "set_price"):
            self.assertIn((deed, True), met)
            self.assertIn((deed, None), met)
        for deed in ("take_place", "put_tie", "take_tie", "set_price"):
            self.assertIn((deed, False), met)

    # What [32] says of sets that stay, and of how far the least cost turns.
    def test_what_stays_and_how_far_it_turns(self):
        rng = random.Random(283)
        for _ in range(120):
            web = chance_web(rng, many=rng.randint(2, 8), most_price=5)
            numbers = [place for place, _ in web[0]]
            prices = dict(web[0])
            for place in rng.sample(numbers, 2):
                self.reprice(web, place, rng.randint(1, 9))
                keeper = Keeper(web)
                if place in keeper.kept():
                    self.assertIs(keeper.take_place(place), True)
            for one, other in rng.sample(list(itertools.combinations(numbers, 2)), 1):
                keeper = Keeper(web)
                ahead, some = keeper.least(), keeper.kept()
                there = (one, other) in web[1]
                stayed = keeper.take_tie(one, other) if there else keeper.put_tie(other, one)
                grown = ahead - keeper.least() if there else keeper.least() - ahead
                self.assertTrue(0 <= grown <= min(prices[one], prices[other]))
                if not there and (one in some or other in some):
                    self.assertIs(stayed, True)
            self.assertIs(Keeper(web).put_place(next(k for k in range(1000) if k not in prices), 3), True)

    def reprice(self, web, place, price):
        keeper = Keeper(web)
        ahead, held = keeper.least(), place in keeper.kept()
        old = dict(web[0])[place]
        stayed = keeper.set_price(place, price)
        if price == old or held and price < old or not held and price > old:
            self.assertIs(stayed, True)
        self.assertLessEqual(abs(keeper.least() - ahead), abs(price - old))


class TestOwn(KeeperCase):
    def test_what_was_handed_in_may_change(self):
        web = copied(PATH)
        keeper = Keeper(web)
        for one in lists_in(web):
            one.clear()
        self.sound(keeper, PATH)
        keeper.put_tie(1, 4)
        keeper.undo()
        self.sound(keeper, PATH)

    def test_what_is_handed_in_stays_as_it_was(self):
        web = copied(PATH)
        keeper = Keeper(web)
        keeper.put_place(2, 2)
        keeper.put_tie(2, 1)
        keeper.set_price(3, 50)
        keeper.take_place(4)
        self.assertTrue(alike(web, PATH))

    def test_told_lists_may_change(self):
        keeper = Keeper(ring_of(5))
        keeper.put_tie(0, 2)
        for deed, given in ((None, ()), ("put_place", (7, 3)), ("put_tie", (7, 1)), ("set_price", (3, 9)),
                            ("take_tie", (1, 2)), ("take_place", (0,)), ("undo", ()), ("undo", ())):
            if deed is not None:
                getattr(keeper, deed)(*given)
            first = copied(all_told(keeper))
            told = all_told(keeper)
            found = [id(one) for one in lists_in(told)]
            self.assertEqual(len(found), len(set(found)))
            for one in lists_in(told):
                one.clear()
                one.append("spoilt")
            self.assertTrue(alike(all_told(keeper), first))

    def test_lists_told_ahead_of_a_deed_stay(self):
        keeper = Keeper(PATH)
        told = all_told(keeper)
        first = copied(told)
        for deed, given in (("put_tie", (1, 4)), ("set_price", (3, 60)), ("take_place", (9,)), ("undo", ())):
            getattr(keeper, deed)(*given)
            self.assertTrue(alike(told, first))

    def test_keepers_know_nothing_of_each_other(self):
        one, other = Keeper(PATH), Keeper(PATH)
        one.put_tie(1, 4)
        one.take_place(9)
        self.sound(other, PATH)
        self.refused(other, "undo", (), (Bare,))

    def test_asked_alike_is_told_alike(self):
        rng = random.Random(284)
        for _ in range(20):
            web = chance_web(rng, many=6)
            self.assertTrue(alike(all_told(Keeper(web)), all_told(Keeper(copied(web)))))


if __name__ == "__main__":
    unittest.main()
