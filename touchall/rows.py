"""Rows of amounts: what they pay at each place, and what they show no touching set to cost less than."""

from touchall.errors import NoRows, Overpaid
from touchall.kinds import is_list_up_to, is_tuple_of, is_whole
from touchall.webs import are_places, look_at_web, nears_in

MOST_ROWS = 200


def is_all(nears, places):
    for at, one in enumerate(places):
        for other in places[at + 1:]:
            if other <= one or other not in nears[one]:
                return False
    return len(places) >= 2


def is_ring(nears, places):
    if len(places) < 3 or len(places) % 2 == 0 or len(set(places)) != len(places):
        return False
    behind = places[1:] + places[:1]
    return all([other in nears[one] for one, other in zip(places, behind)])


def is_row(nears, thing):
    if not is_tuple_of(thing, 3) or not isinstance(thing[0], str) or not isinstance(thing[1], list):
        return False
    if not is_whole(thing[2]) or thing[2] < 1:
        return False
    if not are_places(nears, thing[1]):
        return False
    if thing[0] == "all":
        return is_all(nears, thing[1])
    return thing[0] == "ring" and is_ring(nears, thing[1])


def paid_by(rows):
    paid = {}
    for word, places, amount in rows:
        for place in places:
            paid[place] = paid.get(place, 0) + amount
    return paid


def look_at_rows(web, thing):
    look_at_web(web)
    if not is_list_up_to(thing, MOST_ROWS):
        raise NoRows(None)
    nears = nears_in(web)
    for number, row in enumerate(thing):
        if not is_row(nears, row):
            raise NoRows(number)
    paid = paid_by(thing)
    for place, price in web[0]:
        if paid.get(place, 0) > 2 * price:
            raise Overpaid(place)


def given_for_one(row):
    many = len(row[1])
    return many - 1 if row[0] == "all" else (many + 1) // 2


def given_by(rows):
    return sum([given_for_one(row) * row[2] for row in rows])


def half_up(worth):
    return (worth + 1) // 2


def worth_of(web, rows):
    look_at_rows(web, rows)
    return given_by(rows)


def bound_of(web, rows):
    return half_up(worth_of(web, rows))
