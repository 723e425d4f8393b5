"""All cheapest sets of a web along a string, one by one."""

from touchall.errors import TooMany
from touchall.strings import along, string_least


# Told of choices are the least cost and how one comes to it: each time the choices ahead, and what is put to them.
def ways_grown(value, place, price, is_in):
    if is_in:
        return (value[0] + price, [(value, [place])])
    return (value[0], [(value, [])])


def ways_joined(one, other):
    if one[0] != other[0]:
        return one if one[0] < other[0] else other
    return (one[0], one[1] + other[1])


# Gone back from the last place on, there are never more ways than cheapest sets: each comes from a start.
def sets_by_ways(last, many):
    loose_ends = [(last, [])]
    for turn in range(many):
        further = []
        for value, some in loose_ends:
            further += [(ahead, put + some) for ahead, put in value[1]]
        loose_ends = further
    return [some for value, some in loose_ends]


def all_least(web, most):
    if string_least(web)[1] > most:
        raise TooMany("more cheapest sets than are let")
    last = along(web, (0, []), ways_grown, ways_joined)
    return sorted(sets_by_ways(last, len(web[0])))
