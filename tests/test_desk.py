import random
import unittest
from unittest import mock

from tests.helping import (ANYTHING, EMPTY, PATH, SCATTERED, TRIANGLE, alike, beside_each_other, chance_web, cost,
                           five_by_five, full_ties, grove, least_cost, least_sets, line_of, mixed_up, refusal, ring_of,
                           touches)
from touchall.desk import Desk
from touchall.edges import edge_of
from touchall.errors import NoDeed, NoName, NoPlace, NoSay, NoSet, NoText, TooMany, TooWide
from touchall.fixed import fixed_of
from touchall.halves import halves_cost, halves_of
from touchall.seeking import least_of
from touchall.sides import sides_of
from touchall.texts import written_web

WIDE = ([(k, 1) for k in range(14)], [(k, k + 7) for k in range(7)])
PATH_TEXT = "place 1 5; place 3 2; place 4 7; place 9 1; tie 1 3; tie 3 4; tie 4 9"
WORDS = ("shown", "drop", "least", "halves", "in", "out", "touches", "sides", "counts", "edge", "price")


def text_of(web):
    return written_web(web).replace("\n", "; ")


def joined(things):
    return " ".join(str(thing) for thing in things) or "-"


def letters(number):
    """A name for each number."""
    return "abcdefghij"[number // 10] + "abcdefghij"[number % 10]


class DeskCase(unittest.TestCase):
    def desk(self, **webs):
        desk = Desk()
        for name, web in webs.items():
            self.assertTrue(alike(desk.say(f"web {name} {text_of(web)}"), "ok"))
        return desk

    def all_told(self, desk):
        names = desk.say("names")
        return (names, [desk.say(f"shown {name}") for name in names.split(" ") if name != "-"])

    def says(self, desk, row, wanted):
        told = desk.say(row)
        self.assertTrue(alike(told, wanted), (row, told, wanted))

    def refused(self, desk, row, kind, fields=None):
        ahead = self.all_told(desk)
        found = refusal(desk.say, row)
        self.assertIsNotNone(found, row)
        self.assertEqual(found[0], kind, row)
        self.assertTrue(alike(found[1], fields or {}), (row, found))
        self.assertEqual(self.all_told(desk), ahead)


class TestKeeps(DeskCase):
    def test_nothing_at_first(self):
        desk = Desk()
        self.says(desk, "names", "-")
        for word in WORDS[:6] + ("touches", "sides", "counts"):
            self.refused(desk, f"{word} a", NoName)

    def test_webs_by_names(self):
        desk = Desk()
        self.says(desk, f"web path {PATH_TEXT}", "ok")
        self.says(desk, "shown path", PATH_TEXT)
        self.says(desk, "web b place 5 1", "ok")
        self.says(desk, "web abcdefgh place 6 1", "ok")
        self.says(desk, "names", "abcdefgh b path")
        self.says(desk, "web b place 7 2; place 8 1; tie 7 8", "ok")
        self.says(desk, "names", "abcdefgh b path")
        self.says(desk, "shown b", "place 7 2; place 8 1; tie 7 8")
        self.says(desk, "drop b", "ok")
        self.says(desk, "names", "abcdefgh path")
        self.refused(desk, "drop b", NoName)
        self.refused(desk, "shown b", NoName)
        self.says(desk, "drop path", "ok")
        self.says(desk, "drop abcdefgh", "ok")
        self.says(desk, "names", "-")

    def test_a_text_without_signs(self):
        desk = Desk()
        self.says(desk, "web a ", "ok")
        self.says(desk, "shown a", "")
        self.says(desk, "names", "a")
        self.says(desk, "least a", "0")
        self.says(desk, "halves a", "0")
        self.says(desk, "in a", "-")
        self.says(desk, "out a", "-")
        self.says(desk, "touches a", "yes")
        self.says(desk, "sides a", "yes")
        self.says(desk, "counts a", "0 1")
        self.refused(desk, "web a", NoSay)
        self.refused(desk, "web ", NoSay)
        self.refused(desk, "web", NoSay)

    def test_texts_that_are_read_to_no_web(self):
        desk = self.desk(a=PATH)
        for text, row in (("x", 0), (" ", 0), ("  ", 0), ("place 1 5;place 2 5", 0), ("place 1 5; ", 1), ("; ", 0),
                          ("place 1 5 ", 0), (" place 1 5", 0), ("place 1  5", 0), ("place 1 5;  place 2 5", 1),
                          ("place 1 5 ; place 2 5", 0), ("place 1 5; place 1 6", 1), ("place 1 0", 0), (";", 0),
                          ("place 01 5", 0), ("place 1 5; tie 1 2", 1), ("place 1 5; ; tie 1 2", 1), ("tie 1 2", 0),
                          ("place 1 5; place 2 5; tie 2 1", 2), ("place 1 1000000000000; place 2 1", 1),
                          ("place 1 5; place 2 5; tie 1 2; place 3 1", 3), ("place\t1\t5", 0), ("place 1000 1", 0)):
            self.refused(desk, f"web a {text}", NoText, {"row": row})
            self.refused(desk, f"web b {text}", NoText, {"row": row})

    def test_webs_there_and_back(self):
        rng = random.Random(291)
        desk = Desk()
        for _ in range(40):
            web = chance_web(rng, many=rng.choice([0, 1, 5, 40]), most_price=rng.choice([9, 10 ** 10]))
            self.says(desk, f"web it {text_of(web)}", "ok")
            self.says(desk, "shown it", text_of(web))

    def test_the_thirtieth_and_the_thirty_first_name(self):
        desk = Desk()
        for number in range(30):
            self.says(desk, f"web {letters(number)} place {number} 1", "ok")
        self.says(desk, "names", " ".join(sorted(letters(number) for number in range(30))))
        self.refused(desk, "web da place 1 1", TooMany)
        self.refused(desk, "web da ", TooMany)
        # What the text is refused for goes ahead of that, and what is no row ahead of all.
        self.refused(desk, "web da place 1", NoText, {"row": 0})
        self.refused(desk, "web DA place 1 1", NoSay)
        self.says(desk, "web cj place 500 1", "ok")
        self.says(desk, "shown cj", "place 500 1")
        self.says(desk, "drop aa", "ok")
        self.says(desk, "web da place 1 1", "ok")
        self.refused(desk, "web aa place 1 1", TooMany)

    def test_desks_know_nothing_of_each_other(self):
        one, other = Desk(), Desk()
        self.says(one, "web a place 1 1", "ok")
        self.says(other, "names", "-")


class TestAnswers(DeskCase):
    def test_small_ones(self):
        desk = self.desk(path=PATH, three=TRIANGLE, far=SCATTERED)
        for row, wanted in (("least path", "3"), ("least three", "7"), ("least far", "5"), ("halves path", "6"),
                            ("halves three", "12"), ("halves far", "10"), ("in path", "3 9"), ("out path", "1 4"),
                            ("in three", "-"), ("out three", "-"), ("in far", "0 2 5"), ("out far", "7 8 999"),
                            ("sides path", "yes"), ("sides three", "no"), ("sides far", "yes"), ("counts path", "3 1"),
                            ("counts three", "7 1"), ("counts far", "5 1"), ("edge path 3", "1 12"),
                            ("edge path 4", "2 3"), ("edge three 0", "4 9"), ("edge far 7", "5 5"),
                            ("touches path 3 9", "yes"), ("touches path 3", "no"), ("touches path", "no"),
                            ("touches path 1 3 4 9", "yes"), ("touches far 0 2 5", "yes"), ("touches far 8 999", "yes"),
                            ("touches three 0", "no"), ("touches three 0 2", "yes")):
            self.says(desk, row, wanted)
            self.says(desk, row, wanted)

    def test_by_chance(self):
        rng = random.Random(292)
        for _ in range(60):
            web = chance_web(rng, many=rng.randint(1, 7), most_price=rng.choice([1, 2, 9]))
            desk = self.desk(it=web)
            found = least_sets(web)
            self.says(desk, "least it", str(least_cost(web)))
            self.says(desk, "counts it", f"{least_cost(web)} {len(found)}")
            self.says(desk, "halves it", str(halves_cost(web, halves_of(web)[0])))
            self.says(desk, "in it", joined(fixed_of(web)[0]))
            self.says(desk, "out it", joined(fixed_of(web)[1]))
            self.says(desk, "sides it", "yes" if sides_of(web)[0] == "sides" else "no")
            for place, _ in web[0]:
                self.says(desk, f"edge it {place}", joined(edge_of(web, place, 1000)[1:3]))
            some = [place for place, _ in web[0] if rng.random() < 0.7]
            row = " ".join(["touches it"] + [str(place) for place in some])
            self.says(desk, row, "yes" if touches(web, some) else "no")

    def test_great_webs(self):
        rng = random.Random(293)
        for web in (line_of(40), ring_of(39), five_by_five(4), grove(rng, 40, 9)):
            desk = self.desk(it=web)
            told = least_of(web, 1000)
            self.says(desk, "least it", str(cost(web, told[1])) if told[0] == "least" else "open")
            place = web[0][7][0]
            told = edge_of(web, place, 1000)
            self.says(desk, f"edge it {place}", joined(told[1:3]) if told[0] == "edge" else "open")

    # Webs for which a thousand tuples are too few are hard to come by, so what is told then is told here by hand.
    def test_open(self):
        desk = self.desk(it=PATH)
        asked = []

        def opened(web, *rest):
            asked.append((web,) + rest)
            return ("open", [], 0, ("bound", [])) if len(rest) == 1 else ("open",)

        with mock.patch("touchall.desk.least_of", opened), mock.patch("touchall.desk.edge_of", opened):
            self.says(desk, "least it", "open")
            self.says(desk, "edge it 4", "open")
        self.assertTrue(alike(asked, [(PATH, 1000), (PATH, 4, 1000)]))

    def test_counts_of_very_many(self):
        pairs = ([(k, 7) for k in range(40)], [(k, k + 1) for k in range(0, 40, 2)])
        self.says(self.desk(it=pairs), "counts it", f"140 {2 ** 20}")

    def test_what_the_stages_refuse(self):
        desk = self.desk(wide=WIDE, full=([(k, 1) for k in range(16)], full_ties(16, 120)), path=PATH)
        self.refused(desk, "counts wide", TooWide, {"place": 6})
        self.refused(desk, "counts full", TooWide, {"place": 6})
        self.says(desk, "least full", "15")
        self.says(desk, "sides full", "no")


class TestTouches(DeskCase):
    def test_places_that_are_not_rising(self):
        desk = self.desk(path=PATH)
        for places in ("3 1", "9 9", "1 3 3", "1 4 3", "9 1", "3 3 3"):
            self.refused(desk, f"touches path {places}", NoSet)

    def test_places_that_the_web_has_not(self):
        desk = self.desk(path=PATH, none=EMPTY)
        for places, first in (("2", 2), ("1 2", 2), ("2 5", 2), ("5 2", 5), ("9 3 2", 2), ("1 1 0", 0), ("1000", 1000),
                              ("1 " + "7" * 60, int("7" * 60)), ("3 10 1 2", 10)):
            self.refused(desk, f"touches path {places}", NoPlace, {"place": first})
        self.refused(desk, "touches none 0", NoPlace, {"place": 0})
        self.says(desk, "touches none", "yes")

    def test_webs_without_ties(self):
        desk = self.desk(it=([(0, 1), (7, 1)], []))
        for places in ("", " 0", " 7", " 0 7"):
            self.says(desk, f"touches it{places}", "yes")


class TestPrice(DeskCase):
    def test_set(self):
        desk = self.desk(path=PATH)
        self.says(desk, "price path 3 20", "ok")
        self.says(desk, "shown path", PATH_TEXT.replace("3 2;", "3 20;"))
        self.says(desk, "least path", str(least_cost(([(1, 5), (3, 20), (4, 7), (9, 1)], PATH[1]))))
        self.says(desk, "price path 3 20", "ok")
        self.says(desk, "price path 3 999999999987", "ok")
        self.says(desk, "price path 3 1", "ok")
        self.says(desk, "shown path", PATH_TEXT.replace("3 2;", "3 1;"))

    def test_no_web_would_come(self):
        desk = self.desk(path=PATH, one=([(0, 4)], []))
        for price in ("0", "999999999988", "1000000000000", "9" * 60):
            self.refused(desk, f"price path 3 {price}", NoDeed)
        self.says(desk, "price one 0 1000000000000", "ok")
        self.refused(desk, "price one 0 1000000000001", NoDeed)
        self.says(desk, "shown one", "place 0 1000000000000")

    def test_places_go_ahead(self):
        desk = self.desk(path=PATH)
        for price in ("1", "0", "9" * 60):
            self.refused(desk, f"price path 2 {price}", NoPlace, {"place": 2})
            self.refused(desk, f"price nopath 2 {price}", NoName)
        for place in ("2", "0", "1000"):
            self.refused(desk, f"edge path {place}", NoPlace, {"place": int(place)})

    def test_great_webs(self):
        rng = random.Random(294)
        web = mixed_up(rng, beside_each_other([line_of(20, 3), ring_of(19)]))
        desk = self.desk(it=web)
        place = web[0][11][0]
        self.says(desk, f"price it {place} 17", "ok")
        self.says(desk, "shown it", text_of(([(p, 17 if p == place else q) for p, q in web[0]], web[1])))


class TestNoSay(DeskCase):
    def test_what_is_no_text(self):
        desk = self.desk(a=PATH)
        for thing in ANYTHING + [["names"], ("names",), b"names", {"names": True}]:
            if not isinstance(thing, str):
                self.refused(desk, thing, NoSay)

    def test_other_rows(self):
        desk = self.desk(a=PATH)
        for row in ("", " ", "a", "name", "Names", "NAMES", "names a", "names ", " names", "names  ", "names\n",
                    "least", "lest a", "Least a", "least a a", "least a 1", "least  a", " least a", "least a ", "least a\n",
                    "\nleast a", "least\na", "least\ta", "shown", "shown a b", "drop", "drop a b", "halves a 1",
                    "in", "out", "in a 1", "out a 1", "sides a 3", "counts a 1", "edge a", "edge a 1 3", "edge",
                    "price a 1", "price a", "price", "price a 1 2 3", "touches", "touches a 1 ", "touches a  1",
                    "touches a 1  3", "touches a ", "put a 1", "tree a", "kept a", "web", "web a", "web a\n",
                    "; ", "names; names", "least a; least a", "-", "ok", "text a", "webs a place 1 1"):
            self.refused(desk, row, NoSay)

    def test_line_feeds(self):
        desk = self.desk(a=PATH)
        for row in ("web b place 1 1\nplace 2 2", "web b \n", "web b place 1 1\n", "\nweb b place 1 1",
                    "web\nb place 1 1", "touches a 1\n3", "names\nnames", "\n"):
            self.refused(desk, row, NoSay)

    def test_names(self):
        desk = self.desk(a=PATH)
        for name in ("A", "aB", "abcdefghi", "a1", "1", "a-b", "a_b", "a;", "-", "", "a.", "a\t", "Abcdefgh", "0"):
            self.refused(desk, f"web {name} place 1 1", NoSay)
            self.refused(desk, f"web {name} ", NoSay)
            for word in ("shown", "drop", "least", "halves", "in", "out", "touches", "sides", "counts"):
                self.refused(desk, f"{word} {name}", NoSay)
            self.refused(desk, f"edge {name} 1", NoSay)
            self.refused(desk, f"price {name} 1 1", NoSay)
        for name in ("z", "abcdefgh", "zzzzzzzz", "web", "names"):
            self.says(desk, f"web {name} place 1 1", "ok")

    def test_numbers(self):
        desk = self.desk(a=PATH)
        for number in ("01", "00", "03", "+3", "-3", "-0", "3.0", "3,", "x", "three", "0x3", "1e1", "3;", "1_0", "\t3"):
            self.refused(desk, f"touches a {number}", NoSay)
            self.refused(desk, f"touches a 1 {number}", NoSay)
            self.refused(desk, f"touches a {number} 2", NoSay)
            self.refused(desk, f"edge a {number}", NoSay)
            self.refused(desk, f"price a {number} 1", NoSay)
            self.refused(desk, f"price a 3 {number}", NoSay)
            # What is no row is refused ahead of a name by which nothing stands, and of places.
            self.refused(desk, f"price b 2 {number}", NoSay)
            self.refused(desk, f"touches b 2 {number}", NoSay)

    def test_names_go_ahead_of_places(self):
        desk = self.desk(a=PATH)
        for row in ("touches b 2", "touches b 3 1", "edge b 2", "price b 2 0", "counts b", "drop b", "shown b",
                    "least b", "halves b", "in b", "out b", "sides b", "touches b"):
            self.refused(desk, row, NoName)

    # A web of this name stands, so words that are names are told apart from words of rows.
    def test_words_as_names(self):
        desk = self.desk(least=PATH, names=TRIANGLE, web=EMPTY)
        self.says(desk, "least least", "3")
        self.says(desk, "least names", "7")
        self.says(desk, "shown web", "")
        self.says(desk, "names", "least names web")
        self.says(desk, "drop names", "ok")
        self.says(desk, "names", "least web")


if __name__ == "__main__":
    unittest.main()
