"""A desk that keeps webs by names and answers rows of words."""

from touchall.deeds import with_price
from touchall.edges import edge_of
from touchall.errors import NoName, NoSay, TooMany
from touchall.fixed import fixed_of
from touchall.halves import halves_cost, halves_of
from touchall.seeking import least_of
from touchall.sets import cost_of, left_by
from touchall.sides import sides_of
from touchall.strings import string_least
from touchall.texts import is_written_number, read_web, written_web
from touchall.trees import MOST_TUPLES
from touchall.webs import look_at_place

MOST_NAMES = 30
MOST_LETTERS = 8
LETTERS = "abcdefghijklmnopqrstuvwxyz"
# So many numbers stand behind the name; of touches any many.
NUMBERS = {"shown": 0, "drop": 0, "least": 0, "halves": 0, "in": 0, "out": 0, "sides": 0, "counts": 0, "edge": 1,
           "price": 2}


def listed(things):
    return " ".join([str(thing) for thing in things]) if things else "-"


def yes_or_no(truth):
    return "yes" if truth else "no"


def said_least(web):
    told = least_of(web, MOST_TUPLES)
    return "open" if told[0] == "open" else str(cost_of(web, told[1]))


def said_touches(web, places):
    prices = dict(web[0])
    for place in places:
        look_at_place(prices, place)
    return yes_or_no(not left_by(web, places))


def said_edge(web, place):
    told = edge_of(web, place, MOST_TUPLES)
    return "open" if told[0] == "open" else listed(told[1:3])


def answer(web, word, numbers):
    if word == "shown":
        return written_web(web).replace("\n", "; ")
    if word == "least":
        return said_least(web)
    if word == "halves":
        return str(halves_cost(web, halves_of(web)[0]))
    if word == "in":
        return listed(fixed_of(web)[0])
    if word == "out":
        return listed(fixed_of(web)[1])
    if word == "touches":
        return said_touches(web, numbers)
    if word == "sides":
        return yes_or_no(sides_of(web)[0] == "sides")
    if word == "counts":
        return listed(string_least(web)[:2])
    return said_edge(web, numbers[0])


def is_name(word):
    return 1 <= len(word) <= MOST_LETTERS and all([sign in LETTERS for sign in word])


def is_said(words):
    if words == ["names"]:
        return True
    if len(words) < 2 or not is_name(words[1]):
        return False
    if words[0] == "web":
        return len(words) > 2
    if words[0] != "touches" and NUMBERS.get(words[0]) != len(words) - 2:
        return False
    return all([is_written_number(word) for word in words[2:]])


def words_of(row):
    if not isinstance(row, str) or "\n" in row or not is_said(row.split(" ")):
        raise NoSay("no row of the desk")
    return row.split(" ")


class Desk:
    def __init__(self):
        self.webs = {}

    def say(self, row):
        words = words_of(row)
        if words[0] == "names":
            return listed(sorted(self.webs))
        if words[0] == "web":
            return self.put_web(words[1], " ".join(words[2:]))
        if words[1] not in self.webs:
            raise NoName("nothing stands by this name")
        return self.say_of(words[0], words[1], [int(word) for word in words[2:]])

    def put_web(self, name, text):
        read = read_web(text.replace("; ", "\n"))
        if name not in self.webs and len(self.webs) >= MOST_NAMES:
            raise TooMany("more names than a desk keeps")
        self.webs[name] = read
        return "ok"

    def say_of(self, word, name, numbers):
        if word == "drop":
            self.webs.pop(name)
            return "ok"
        if word == "price":
            self.webs[name] = with_price(self.webs[name], numbers[0], numbers[1])
            return "ok"
        return answer(self.webs[name], word, numbers)
