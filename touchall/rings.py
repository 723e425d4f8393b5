"""Rings: unlike places, each tied to the next one, the last to the first; among them the odd ones."""

from touchall.webs import tie_of


# All places that hang together with this one, the nearest first, each with the one from which it was met.
def met_from(nears, place):
    above = {place: None}
    line = [place]
    done = 0
    while done < len(line):
        here = line[done]
        for there in nears[here]:
            if there not in above:
                above[there] = here
                line.append(there)
        done += 1
    return above


def levels_by(above):
    levels = {}
    # A place comes behind the one from which it was met, whose level is known by then.
    for place in above:
        levels[place] = 0 if above[place] is None else levels[above[place]] + 1
    return levels


def way_up(above, place):
    way = [place]
    while above[way[-1]] is not None:
        way.append(above[way[-1]])
    return way


# What both ways up have in common goes, but for the place where they meet. None of both places is above the other
# one, so neither way ends ahead of that.
def closed_ring(above, one, other):
    left = way_up(above, one)
    right = way_up(above, other)
    while left[-2] == right[-2]:
        left.pop()
        right.pop()
    return left + list(reversed(right[:-1]))


# None is told, here and of any ring, where there is none among the places that hang together with this one.
def odd_ring_from(nears, place):
    above = met_from(nears, place)
    levels = levels_by(above)
    for here in above:
        for there in nears[here]:
            # From one level both ways up are of one length, so with the place where they meet the ring is odd.
            if levels[there] == levels[here]:
                return closed_ring(above, here, there)
    return None


def ring_from(nears, place):
    above = met_from(nears, place)
    for here in above:
        for there in nears[here]:
            if above[here] != there and above[there] != here:
                return closed_ring(above, here, there)
    return None


def ties_of_ring(ring):
    behind = ring[1:] + ring[:1]
    return [tie_of(one, other) for one, other in zip(ring, behind)]
