"""Edges of prices: up to which price a place is in the cheapest sets, with trees that show it."""

from touchall.errors import NoTree
from touchall.kinds import is_tuple_of, is_whole
from touchall.parts import web_less
from touchall.rules import cost_near
from touchall.seeking import least_of
from touchall.sets import cost_of, is_set, left_by
from touchall.trees import claim_of
from touchall.webs import look_at_place, look_at_web, nears_in


# Told are the web without the place, the web without it and all near it, and what all near it cost.
def both_webs(web, place):
    look_at_web(web)
    prices = dict(web[0])
    look_at_place(prices, place)
    nears = nears_in(web)
    return (web_less(web, [place]), web_less(web, nears[place] + [place]), cost_near(prices, nears, place))


def edge_of(web, place, most):
    both = both_webs(web, place)
    one = least_of(both[0], most)
    other = least_of(both[1], most)
    if one[0] == "open" or other[0] == "open":
        return ("open",)
    without = cost_of(both[0], one[1])
    instead = both[2] + cost_of(both[1], other[1])
    return ("edge", without, instead, one[1], other[1], one[2], other[2])


def is_shown_least(web, cost, some, tree):
    if not is_set(web, some) or left_by(web, some) or cost_of(web, some) != cost:
        return False
    try:
        return claim_of(web, tree) == cost
    except NoTree:
        return False


def lets_edge(web, place, thing):
    both = both_webs(web, place)
    if not is_tuple_of(thing, 7) or not isinstance(thing[0], str) or thing[0] != "edge":
        return False
    if not is_whole(thing[1]) or not is_whole(thing[2]):
        return False
    if not is_shown_least(both[0], thing[1], thing[3], thing[5]):
        return False
    return is_shown_least(both[1], thing[2] - both[2], thing[4], thing[6])
