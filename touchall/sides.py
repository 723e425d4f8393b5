"""Two sides of a web, each tie going from one to the other, or an odd ring that shows that there are none."""

from touchall.rings import levels_by, met_from, odd_ring_from
from touchall.webs import look_at_web, nears_in


def sides_of(web):
    look_at_web(web)
    nears = nears_in(web)
    levels = {}
    for place in nears:
        if place not in levels:
            ring = odd_ring_from(nears, place)
            if ring is not None:
                return ("ring", ring)
            # The places are rising, so a part's least one comes first and has level 0.
            levels.update(levels_by(met_from(nears, place)))
    first = [place for place in nears if levels[place] % 2 == 0]
    other = [place for place in nears if levels[place] % 2 == 1]
    return ("sides", first, other)
