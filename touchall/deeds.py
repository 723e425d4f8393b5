"""Deeds on a web: places, ties and prices that come and go; told is the web behind the deed."""

from touchall.errors import NoDeed, NoWeb
from touchall.kinds import is_whole
from touchall.parts import web_less
from touchall.webs import look_at_place, look_at_web, tie_of


def looked_at(web):
    try:
        look_at_web(web)
    except NoWeb:
        raise NoDeed("what would come is no web") from None
    return web


# A place, or a tie, that is there already stands twice behind the deed, so no web comes of it.
def with_place(web, place, price):
    # What is no number can't even be sorted in.
    if not is_whole(place):
        raise NoDeed("no place can be put by this")
    return looked_at((sorted(web[0] + [(place, price)], key=lambda pair: pair[0]), web[1]))


def less_place(web, place):
    look_at_place(dict(web[0]), place)
    return web_less(web, [place])


def tie_between(web, one, other):
    prices = dict(web[0])
    look_at_place(prices, one)
    look_at_place(prices, other)
    return tie_of(one, other)


def with_tie(web, one, other):
    return looked_at((web[0], sorted(web[1] + [tie_between(web, one, other)])))


def less_tie(web, one, other):
    tie = tie_between(web, one, other)
    if tie not in web[1]:
        raise NoDeed("the tie is not there")
    return (web[0], [known for known in web[1] if known != tie])


def with_price(web, place, price):
    look_at_place(dict(web[0]), place)
    places = [(known, price if known == place else old) for known, old in web[0]]
    return looked_at((places, web[1]))
