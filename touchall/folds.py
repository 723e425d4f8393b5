"""The rule of folds: all near a place go, and it stands for them, tied to all that they were tied to."""

from touchall.rules import cost_near
from touchall.webs import tie_of


def any_tied(nears, places):
    for one in places:
        if any([other in nears[one] for other in places]):
            return True
    return False


def fold_fits(prices, nears, v):
    if len(nears[v]) < 2 or any_tied(nears, nears[v]):
        return False
    together = cost_near(prices, nears, v)
    cheapest = min([prices[place] for place in nears[v]])
    return together - cheapest <= prices[v] < together


def drawn_to(nears, v):
    found = {}
    for one in nears[v]:
        for place in nears[one]:
            found[place] = True
    return [place for place in found if place != v]


# Told are the places that go, the new prices, and what is added.
def fold_change(prices, nears, v):
    return (nears[v], {v: cost_near(prices, nears, v) - prices[v]}, prices[v])


# All old ties of v go with the places near it, so these are all that it has.
def fold_ties(nears, v):
    return [tie_of(v, place) for place in drawn_to(nears, v)]


def fold_back(nears, v, some):
    if v in some:
        return [place for place in some if place != v] + nears[v]
    return some + [v]


def fold_forth(nears, v, some):
    left = [place for place in some if place != v and place not in nears[v]]
    return left + [v] if any([place in some for place in nears[v]]) else left
