"""Webs without rings: the least cost, how many cheapest sets there are, and the first of them."""

from touchall.errors import NotForest
from touchall.rings import met_from, ring_from
from touchall.webs import look_at_web, nears_in

# Told of ways to choose places are the least cost and how many cost just so much. All places of a web together don't
# cost as much as this.
NEVER = (1000000000001, 0)


def either_way(one, other):
    if one[0] == other[0]:
        return (one[0], one[1] + other[1])
    return min(one, other)


def both_ways(one, other):
    return (one[0] + other[0], one[1] * other[1])


# A place comes behind the one above it: so from the last one on, all below a place is known when its turn comes.
def ways_of_tree(prices, above, chosen):
    ins = dict([(place, (prices[place], 1)) for place in above])
    outs = dict([(place, (0, 1)) for place in above])
    top = NEVER
    for place in reversed(list(above)):
        less_it = NEVER if place in chosen else outs[place]
        up = above[place]
        if up is None:
            top = either_way(ins[place], less_it)
        else:
            ins[up] = both_ways(ins[up], either_way(ins[place], less_it))
            outs[up] = both_ways(outs[up], ins[place])
    return top


# Told of the touching sets that have all chosen places.
def ways_of_trees(prices, trees, chosen):
    ways = (0, 1)
    for above in trees:
        ways = both_ways(ways, ways_of_tree(prices, above, chosen))
    return ways


def trees_of(nears):
    met = {}
    trees = []
    for place in nears:
        if place not in met:
            ring = ring_from(nears, place)
            if ring is not None:
                raise NotForest(ring)
            above = met_from(nears, place)
            met.update(above)
            trees.append(above)
    return trees


# No cheapest set is a part of another one: so first, as lists are ordered, is the one that has the least place that
# any of them has, and, of those with it, the next least one, and so on.
def first_least(prices, trees, least):
    chosen = {}
    for place in prices:
        more = dict(chosen)
        more[place] = True
        if ways_of_trees(prices, trees, more)[0] == least:
            chosen = more
    return list(chosen)


def forest_least(web):
    look_at_web(web)
    prices = dict(web[0])
    trees = trees_of(nears_in(web))
    ways = ways_of_trees(prices, trees, {})
    return (ways[0], ways[1], first_least(prices, trees, ways[0]))
