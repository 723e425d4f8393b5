"""Pairings of webs of two sides: dues that pay a cheapest set to the last, and the two outermost such sets."""

from touchall.errors import NotTwo
from touchall.flows import FIRST, SINK, SOURCE, Net
from touchall.kinds import marked
from touchall.sides import sides_of


# A cheapest set is a cheapest cut: of the first side the places beyond it, of the other those that are not.
def net_across(web, first):
    plenty = 1 + sum([price for place, price in web[0]])
    spots = spots_of(web)
    arcs = []
    for place, price in web[0]:
        arcs.append((SOURCE, spots[place], price) if place in first else (spots[place], SINK, price))
    for one, other in web[1]:
        tail = one if one in first else other
        head = other if one in first else one
        arcs.append((spots[tail], spots[head], plenty))
    return Net(FIRST + len(web[0]), arcs)


def spots_of(web):
    return dict([(pair[0], FIRST + at) for at, pair in enumerate(web[0])])


# Told are the places of the set of the cut with these places on the source's side of it.
def set_of_cut(web, first, near_source):
    return [place for place, price in web[0] if (place in first) != (place in near_source)]


def even_dues(web, flows):
    across = flows[len(web[0]):]
    return [(tie[0], tie[1], 2 * amount) for tie, amount in zip(web[1], across) if amount > 0]


def pairing_of(web):
    told = sides_of(web)
    if told[0] == "ring":
        raise NotTwo(told[1])
    first = marked(told[1])
    spots = spots_of(web)
    net = net_across(web, first)
    net.fill(SOURCE, SINK)
    reached = marked(net.reached_from(SOURCE))
    reaching = marked(net.reaching(SINK))
    most = set_of_cut(web, first, marked([place for place in spots if spots[place] in reached]))
    fewest = set_of_cut(web, first, marked([place for place in spots if spots[place] not in reaching]))
    return (most, fewest, even_dues(web, net.flows()))
