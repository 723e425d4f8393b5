"""Trees of cases: what they claim, by which no touching set costs less."""

from touchall.errors import NoRows, NoTree, Overpaid
from touchall.parts import parts, web_less
from touchall.rows import bound_of
from touchall.rules import cost_near
from touchall.steps import after_known, fits_known
from touchall.webs import is_place, look_at_web, nears_in

MOST_TUPLES = 1000
MOST_WITHIN = 100


# A case is a tuple (thing, added, kids): kids are pairs of a web and what is to be a tree for it. None is told where
# the thing can't stand, whatever its trees are.
def bound_case(web, thing):
    try:
        claim = bound_of(web, thing[1])
    except (NoRows, Overpaid):
        return None
    return (thing, [claim], [])


def step_case(web, thing):
    if not fits_known(web, thing[1]):
        return None
    told = after_known(web, thing[1])
    return (thing, [told[1]], [(told[0], thing[2])])


def parts_case(web, thing):
    pieces = parts(web)
    if not isinstance(thing[1], list) or len(thing[1]) != len(pieces):
        return None
    return (thing, [], list(zip(pieces, thing[1])))


def split_case(web, thing):
    prices = dict(web[0])
    if not is_place(prices, thing[1]):
        return None
    v = thing[1]
    nears = nears_in(web)
    kids = [(web_less(web, [v]), thing[2]), (web_less(web, nears[v] + [v]), thing[3])]
    return (thing, [prices[v], cost_near(prices, nears, v)], kids)


def case_of(web, thing):
    if not isinstance(thing, tuple) or len(thing) < 2 or not isinstance(thing[0], str):
        return None
    if thing[0] == "bound" and len(thing) == 2:
        return bound_case(web, thing)
    if thing[0] == "step" and len(thing) == 3:
        return step_case(web, thing)
    if thing[0] == "parts" and len(thing) == 2:
        return parts_case(web, thing)
    if thing[0] == "split" and len(thing) == 4:
        return split_case(web, thing)
    return None


# No call within a call for a tree within a tree: so nothing hangs on how deep calls may go.
def cases_of(web, tree):
    cases = []
    todo = [(web, tree, [])]
    while todo:
        here = todo.pop()
        way = here[2]
        case = None
        if len(cases) < MOST_TUPLES and len(way) < MOST_WITHIN:
            case = case_of(here[0], here[1])
        if case is None:
            raise NoTree(way)
        cases.append(case)
        kids = case[2]
        for number in range(len(kids) - 1, -1, -1):
            todo.append((kids[number][0], kids[number][1], way + [number]))
    return cases


def claim_by(word, added, claims):
    if word == "split":
        return min(added[0] + claims[0], added[1] + claims[1])
    return sum(added) + sum(claims)


def claim_of(web, tree):
    look_at_web(web)
    # Gone through from the last one, each case finds what its trees claim, the first one on top.
    ready = []
    for thing, added, kids in reversed(cases_of(web, tree)):
        claims = [ready.pop() for kid in kids]
        ready.append(claim_by(thing[0], added, claims))
    return ready.pop()
