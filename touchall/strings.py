"""Webs along a string: the places taken in their order, and what is tied across from those ahead to those behind."""

from touchall.errors import TooWide
from touchall.webs import look_at_place, look_at_web, nears_in

MOST_ACROSS = 6


def edge_known(nears, place):
    return [one for one in nears if one <= place and any([other > place for other in nears[one]])]


def edge_behind(web, place):
    look_at_web(web)
    look_at_place(dict(web[0]), place)
    return edge_known(nears_in(web), place)


def look_at_edges(web):
    look_at_web(web)
    nears = nears_in(web)
    for place in nears:
        if len(edge_known(nears, place)) > MOST_ACROSS:
            raise TooWide(place)


# What is told of the choices up to a place hangs, for those behind it, on the chosen places of the edge alone: so
# choices with the same ones are joined. A place may be left out where all near it that are ahead of it are chosen.
def along(web, start, grown, joined):
    nears = nears_in(web)
    told = {(): start}
    for place, price in web[0]:
        edge = edge_known(nears, place)
        ahead = [one for one in nears[place] if one < place]
        here = {}
        for chosen in told:
            for is_in in (True, False):
                if is_in or all([one in chosen for one in ahead]):
                    all_chosen = chosen + (place,) if is_in else chosen
                    across = tuple([one for one in all_chosen if one in edge])
                    value = grown(told[chosen], place, price, is_in)
                    here[across] = joined(here[across], value) if across in here else value
        told = here
    return told[()]


def sums(one, other):
    return [left + right for left, right in zip(one, other)]


# Told of choices are the least cost, how many cost just so much, the first of these, as lists are ordered, and in
# how many of them each place is.
def least_grown(value, place, price, is_in):
    if is_in:
        return (value[0] + price, value[1], value[2] + [place], value[3] + [value[1]])
    return (value[0], value[1], value[2], value[3] + [0])


# None of two choices that cost alike is a part of the other one: so whatever follows, the first stays the first.
def least_joined(one, other):
    if one[0] != other[0]:
        return one if one[0] < other[0] else other
    return (one[0], one[1] + other[1], min(one[2], other[2]), sums(one[3], other[3]))


def string_least(web):
    look_at_edges(web)
    told = along(web, (0, 1, [], []), least_grown, least_joined)
    many_with = [(pair[0], many) for pair, many in zip(web[0], told[3])]
    return (told[0], told[1], told[2], many_with)


# Told of choices is how many there are of each size.
def sizes_grown(value, place, price, is_in):
    return [0] + value if is_in else value + [0]


def sets_by_size(web):
    look_at_edges(web)
    return along(web, [1], sizes_grown, sums)
