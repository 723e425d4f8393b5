"""Odd rings: an odd number of unlike places, each tied to the next one, the last to the first."""

from touchall.webs import tie_of


# Both ways up are of one length, so with the place where they meet the ring has an odd number of places.
def closed_ring(above, one, other):
    left = [one]
    right = [other]
    while left[-1] != right[-1]:
        left.append(above[left[-1]])
        right.append(above[right[-1]])
    return left + list(reversed(right[:-1]))


# None is told where there is no odd ring among the places that hang together with this one.
def odd_ring_from(nears, place):
    above = {place: None}
    levels = {place: 0}
    line = [place]
    done = 0
    while done < len(line):
        here = line[done]
        for there in nears[here]:
            if there not in levels:
                levels[there] = levels[here] + 1
                above[there] = here
                line.append(there)
            elif levels[there] == levels[here]:
                return closed_ring(above, here, there)
        done += 1
    return None


def ties_of_ring(ring):
    behind = ring[1:] + ring[:1]
    return [tie_of(one, other) for one, other in zip(ring, behind)]
