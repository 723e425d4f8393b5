import random
import unittest

from tests.helping import ANYTHING, EMPTY, NO_WEBS, PATH, SCATTERED, TRIANGLE, alike, chance_web, chance_webs, full_ties
from touchall.errors import NoText, NoWeb
from touchall.texts import read_web, written_web

PATH_TEXT = "place 1 5\nplace 3 2\nplace 4 7\nplace 9 1\ntie 1 3\ntie 3 4\ntie 4 9"
FORTY = ([(k, k + 1) for k in range(40)], [(k, k + 1) for k in range(39)])
MANY_TIES = ([(k, 1) for k in range(20)], full_ties(20, 120))
GREAT = 10 ** 12


class TextCase(unittest.TestCase):
    def refused(self, text, row):
        with self.assertRaises(NoText) as caught:
            read_web(text)
        self.assertTrue(alike(caught.exception.row, row), (text, caught.exception.row))


class TestWritten(unittest.TestCase):
    def test_ordinary(self):
        self.assertEqual(written_web(PATH), PATH_TEXT)
        self.assertEqual(written_web(([(0, GREAT)], [])), "place 0 1000000000000")

    def test_no_places(self):
        self.assertEqual(written_web(EMPTY), "")

    def test_no_web(self):
        for thing in NO_WEBS:
            with self.assertRaises(NoWeb):
                written_web(thing)


class TestRead(TextCase):
    def test_ordinary(self):
        self.assertTrue(alike(read_web(PATH_TEXT), PATH))
        self.assertTrue(alike(read_web(""), EMPTY))
        self.assertTrue(alike(read_web("place 0 1"), ([(0, 1)], [])))
        self.assertTrue(alike(read_web("place 0 1000000000000"), ([(0, GREAT)], [])))

    def test_what_is_written_is_read_to_the_same(self):
        rng = random.Random(7)
        great = [chance_web(rng, many=40, most_price=GREAT // 40) for _ in range(20)]
        for web in [EMPTY, PATH, TRIANGLE, SCATTERED, FORTY, MANY_TIES] + great + chance_webs(200):
            self.assertTrue(alike(read_web(written_web(web)), web))

    def test_what_is_read_is_written_to_the_same(self):
        for text in ("", "place 7 3", PATH_TEXT, written_web(FORTY), written_web(MANY_TIES)):
            self.assertEqual(written_web(read_web(text)), text)

    def test_no_text(self):
        for thing in ANYTHING + [[PATH_TEXT], (PATH_TEXT,), PATH]:
            if not isinstance(thing, str):
                self.refused(thing, 0)


class TestBlanksAndLineFeeds(TextCase):
    def test_rows_without_signs(self):
        self.refused("\n", 0)
        self.refused("\n\n", 0)
        self.refused("\n" + PATH_TEXT, 0)
        self.refused(PATH_TEXT + "\n", 7)
        self.refused(PATH_TEXT + "\n\n", 7)
        self.refused("place 1 5\n\nplace 3 2", 1)
        self.refused("place 1 5\n", 1)

    def test_blanks(self):
        self.refused(" ", 0)
        rows = PATH_TEXT.split("\n")
        for at, row in enumerate(rows):
            first, second, third = row.split(" ")
            wrong = [" " + row, row + " ", f"{first}  {second} {third}", f"{first} {second}  {third}",
                     f"{first}{second} {third}", f"{first} {second}{third}", f"{first}\t{second} {third}",
                     f"{first} {second}\t{third}", "\t" + row, row + "\t", " ", "\t", ""]
            for other in wrong:
                self.refused("\n".join(rows[:at] + [other] + rows[at + 1:]), at)

    def test_other_ends_of_rows_part_nothing(self):
        self.refused("place 1 5\tplace 2 5", 0)
        self.refused("place 1 5 place 2 5", 0)


class TestWords(TextCase):
    def test_words(self):
        for row in ("place", "place 1", "place 1 5 5", "place 1 5 tie", "Place 1 5", "PLACE 1 5", "places 1 5",
                    "plac 1 5", "1 5", "1 place 5", "spot 1 5", "5", "~", "place place 5", "place 1 price", "-",
                    "web 1 5"):
            self.refused(row, 0)
            self.refused("place 0 1\n" + row, 1)
        for row in ("tie", "tie 0", "tie 0 1 2", "Tie 0 1", "ties 0 1", "ti 0 1", "0 1", "tie tie 1",
                    "tie 0 tie", "tie a b"):
            self.refused("place 0 1\nplace 1 1\n" + row, 2)

    def test_numbers(self):
        for word in ("01", "00", "+1", "-1", "-0", "+0", "1.0", "1e1", "0x1", "1_0", "1,0", "one", "", "1.", ".1",
                     "(1)"):
            self.refused(f"place {word} 5", 0)
            self.refused(f"place 5 {word}", 0)
            self.refused(f"place 0 1\nplace 1 1\nplace 10 1\ntie {word} 10", 3)
            self.refused(f"place 0 1\nplace 1 1\nplace 10 1\ntie 0 {word}", 3)

    def test_great_numbers(self):
        for figures in (4, 12, 13, 14, 20, 30, 60):
            word = "9" * figures
            self.refused(f"place {word} 5", 0)
            self.refused(f"place 0 1\ntie 0 {word}", 1)
            if figures > 12:
                self.refused(f"place 0 1\nplace 5 {word}", 1)
        self.refused("place 5 1" + "0" * 59, 0)
        self.refused("place 0" + "0" * 59 + " 1", 0)
        self.refused("place 1 0" + "0" * 58 + "1", 0)
        self.refused("place 1000000000000000 1", 0)


class TestRows(TextCase):
    def test_places(self):
        self.refused("place 1000 1", 0)
        self.refused("place 0 0", 0)
        self.refused("place 0 1\nplace 0 1", 1)
        self.refused("place 0 1\nplace 0 2", 1)
        self.refused("place 0 1\nplace 5 1\nplace 4 1\nplace 3 1", 2)
        self.assertEqual(read_web("place 0 1\nplace 999 1"), ([(0, 1), (999, 1)], []))

    def test_rows_twice_exchanged_or_left_out(self):
        rows = PATH_TEXT.split("\n")
        for at in range(len(rows)):
            self.refused("\n".join(rows[:at + 1] + rows[at:]), at + 1)
        for at in (0, 1, 2):
            turned = rows[:at] + [rows[at + 1], rows[at]] + rows[at + 2:]
            self.refused("\n".join(turned), at + 1)
        for at in (4, 5):
            turned = rows[:at] + [rows[at + 1], rows[at]] + rows[at + 2:]
            self.refused("\n".join(turned), at + 1)
        for at, first in ((0, 3), (1, 3), (2, 4), (3, 5)):
            self.refused("\n".join(rows[:at] + rows[at + 1:]), first)

    def test_a_place_behind_a_tie(self):
        self.refused("place 0 1\nplace 1 1\ntie 0 1\nplace 2 1", 3)
        self.refused("place 0 1\nplace 1 1\ntie 0 1\nplace 2 1\ntie 0 2", 3)
        self.refused("tie 0 1\nplace 0 1\nplace 1 1", 0)

    def test_ties(self):
        two = "place 2 1\nplace 4 1\n"
        self.refused(two + "tie 2 3", 2)
        self.refused(two + "tie 3 4", 2)
        self.refused(two + "tie 4 2", 2)
        self.refused(two + "tie 2 2", 2)
        self.refused(two + "tie 2 4\ntie 2 4", 3)
        self.refused(two + "tie 2 4\ntie 4 2", 3)
        three = "place 0 1\nplace 1 1\nplace 2 1\n"
        self.refused(three + "tie 0 2\ntie 0 1", 4)
        self.refused(three + "tie 1 2\ntie 0 2", 4)
        self.refused("tie 0 1", 0)

    def test_how_many(self):
        self.refused("\n".join(f"place {k} 1" for k in range(41)), 40)
        self.refused("\n".join(f"place {k} 1" for k in range(60)), 40)
        places = "\n".join(f"place {k} 1" for k in range(20)) + "\n"
        self.refused(places + "\n".join(f"tie {a} {b}" for a, b in full_ties(20, 121)), 140)
        self.refused(places + "\n".join(f"tie {a} {b}" for a, b in full_ties(20, 150)), 140)

    def test_the_first_row_goes_ahead_of_too_many(self):
        rows = [f"place {k} 1" for k in range(41)]
        rows[3] = "place 2 1"
        self.refused("\n".join(rows), 3)

    def test_prices_together(self):
        self.assertEqual(read_web("place 0 999999999999\nplace 1 1"), ([(0, GREAT - 1), (1, 1)], []))
        self.refused("place 0 1000000000001", 0)
        self.refused("place 0 999999999999\nplace 1 2", 1)
        self.refused("place 0 999999999999\nplace 1 1\nplace 2 1", 2)


if __name__ == "__main__":
    unittest.main()
