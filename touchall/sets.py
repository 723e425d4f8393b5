"""Sets of a web's places: what they touch, what they cost, what is needless in them."""

from touchall.errors import NoSet
from touchall.kinds import marked
from touchall.webs import is_place, look_at_web, nears_in


def is_set(web, thing):
    look_at_web(web)
    if not isinstance(thing, list):
        return False
    prices = dict(web[0])
    last = -1
    for place in thing:
        if not is_place(prices, place) or place <= last:
            return False
        last = place
    return True


def look_at_set(web, thing):
    if not is_set(web, thing):
        raise NoSet("no rising list of places of the web")


def all_in(places, chosen):
    return all([place in chosen for place in places])


def left_by(web, some):
    look_at_set(web, some)
    chosen = marked(some)
    return [(one, other) for one, other in web[1] if one not in chosen and other not in chosen]


def cost_of(web, some):
    look_at_set(web, some)
    prices = dict(web[0])
    return sum([prices[place] for place in some])


def needless(web, some):
    look_at_set(web, some)
    nears = nears_in(web)
    chosen = marked(some)
    return [place for place in some if all_in(nears[place], chosen)]


def lean(web, some):
    look_at_set(web, some)
    prices = dict(web[0])
    nears = nears_in(web)
    left = marked(some)
    for place in sorted(some, key=lambda p: (prices[p], p), reverse=True):
        if all_in(nears[place], left):
            left.pop(place)
    return sorted(left)
