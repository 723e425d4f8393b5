"""Webs: places with prices, and ties between two places each."""

from touchall.errors import NoPlace, NoWeb
from touchall.kinds import is_list_up_to, is_pair_of_wholes, is_tuple_of, is_whole

MOST_PLACES = 40
MOST_TIES = 120
LAST_PLACE = 999
MOST_PRICE = 1000000000000


def place_stands(thing, last, spent):
    if not is_pair_of_wholes(thing):
        return False
    return last < thing[0] <= LAST_PLACE and 1 <= thing[1] <= MOST_PRICE - spent


def tie_stands(thing, last, prices):
    if not is_pair_of_wholes(thing):
        return False
    return last < thing and thing[0] < thing[1] and thing[0] in prices and thing[1] in prices


def look_at_places(places):
    if not is_list_up_to(places, MOST_PLACES):
        raise NoWeb("places", None)
    last = -1
    spent = 0
    for number, thing in enumerate(places):
        if not place_stands(thing, last, spent):
            raise NoWeb("places", number)
        last = thing[0]
        spent += thing[1]


def look_at_ties(ties, prices):
    if not is_list_up_to(ties, MOST_TIES):
        raise NoWeb("ties", None)
    last = (-1, -1)
    for number, thing in enumerate(ties):
        if not tie_stands(thing, last, prices):
            raise NoWeb("ties", number)
        last = thing


def look_at_web(thing):
    if not is_tuple_of(thing, 2):
        raise NoWeb("web", None)
    look_at_places(thing[0])
    look_at_ties(thing[1], dict(thing[0]))


def is_place(prices, thing):
    return is_whole(thing) and thing in prices


def are_places(prices, things):
    return all([is_place(prices, thing) for thing in things])


def look_at_place(prices, thing):
    if not is_place(prices, thing):
        raise NoPlace(thing)


def nears_in(web):
    nears = dict([(place, []) for place, price in web[0]])
    # Ties are sorted, so every place's list comes to be rising by itself.
    for one, other in web[1]:
        nears[one].append(other)
        nears[other].append(one)
    return nears


def tie_of(one, other):
    return (min(one, other), max(one, other))


def places_of(web):
    look_at_web(web)
    return [place for place, price in web[0]]


def price_of(web, place):
    look_at_web(web)
    prices = dict(web[0])
    look_at_place(prices, place)
    return prices[place]


def near(web, place):
    look_at_web(web)
    look_at_place(dict(web[0]), place)
    return nears_in(web)[place]
