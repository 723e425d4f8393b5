"""Webs less some places, webs in parts, webs beside each other."""

from touchall.errors import NoJoin, NoWeb
from touchall.kinds import marked
from touchall.webs import look_at_place, look_at_web, nears_in


def web_of(web, kept):
    places = [(place, price) for place, price in web[0] if place in kept]
    ties = [(one, other) for one, other in web[1] if one in kept and other in kept]
    return (places, ties)


def web_less(web, gone):
    return web_of(web, marked([place for place, price in web[0] if place not in gone]))


def hanging_with(nears, place):
    met = {place: True}
    todo = [place]
    while todo:
        here = todo.pop()
        for there in nears[here]:
            if there not in met:
                met[there] = True
                todo.append(there)
    return met


def without(web, some):
    look_at_web(web)
    prices = dict(web[0])
    for place in some:
        look_at_place(prices, place)
    return web_less(web, marked(some))


def parts(web):
    look_at_web(web)
    nears = nears_in(web)
    met = {}
    told = []
    for place in nears:
        if place not in met:
            together = hanging_with(nears, place)
            met.update(together)
            told.append(web_of(web, together))
    return told


def beside(one, other):
    look_at_web(one)
    look_at_web(other)
    both = (sorted(one[0] + other[0]), sorted(one[1] + other[1]))
    # A place in common stands twice in both, so it makes no web either.
    try:
        look_at_web(both)
    except NoWeb:
        raise NoJoin("the two come to no web") from None
    return both
