"""Least sets, sought together with trees that show that none costs less."""

from touchall.halves import told_paper
from touchall.parts import parts, web_less
from touchall.rings import odd_ring_from, ties_of_ring
from touchall.rows import given_by, half_up
from touchall.rules import cost_near
from touchall.sets import cost_of, lean
from touchall.shrinking import next_step
from touchall.steps import after_known, back_known
from touchall.trees import MOST_TUPLES
from touchall.webs import look_at_web, nears_in


# What is met on the way: a tree, what it claims, of how many tuples it is, and a touching set that costs less than
# what was asked for, None where none was met.
class Shown:
    def __init__(self, proof, claim, size, found):
        self.proof = proof
        self.claim = claim
        self.size = size
        self.found = found


def nears_by(web, amounts):
    return nears_in((web[0], sorted(amounts)))


# Along an odd ring the dues of its ties give less than a row of the ring that pays its places the same.
def draw_ring(ring, amounts):
    ties = ties_of_ring(ring)
    amount = min([amounts[tie] for tie in ties])
    for tie in ties:
        amounts[tie] -= amount
        if amounts[tie] == 0:
            amounts.pop(tie)
    return ("ring", ring, 2 * amount)


def rows_for(web):
    amounts = dict([((one, other), amount) for one, other, amount in told_paper(web)[1]])
    rows = []
    for place, price in web[0]:
        ring = odd_ring_from(nears_by(web, amounts), place)
        while ring is not None:
            rows.append(draw_ring(ring, amounts))
            ring = odd_ring_from(nears_by(web, amounts), place)
    return rows + [("all", [one, other], amounts[(one, other)]) for one, other in sorted(amounts)]


def bound_shown(web):
    rows = rows_for(web)
    return Shown(("bound", rows), half_up(given_by(rows)), 1, None)


def step_shown(web, step, goal, most):
    told = after_known(web, step)
    rest = shown(told[0], goal - told[1], most - 1)
    found = None
    if rest.found is not None:
        found = back_known(web, step, rest.found)
    return Shown(("step", step, rest.proof), told[1] + rest.claim, 1 + rest.size, found)


def joined(web, founds, goal):
    places = []
    for found in founds:
        if found is None:
            return None
        places += found
    places = sorted(places)
    # Where tuples run short, a part's set may cost more than its tree claims, and all of them too much.
    return places if cost_of(web, places) < goal else None


# Each part has to come to what is left of the goal when those ahead claim what they do, and those behind their bounds.
def parts_shown(web, pieces, goal, most):
    bounds = [bound_shown(piece).claim for piece in pieces]
    told = []
    left = most - 1
    need = goal - sum(bounds)
    for at, piece in enumerate(pieces):
        here = shown(piece, need + bounds[at], left - (len(pieces) - 1 - at))
        told.append(here)
        left -= here.size
        need += bounds[at] - here.claim
    trees = [here.proof for here in told]
    claim = sum([here.claim for here in told])
    return Shown(("parts", trees), claim, most - left, joined(web, [here.found for here in told], goal))


# With many places gone on either side the trees stay small.
def place_to_split(prices, nears):
    return max(nears, key=lambda v: (len(nears[v]), prices[v], v))


def split_shown(web, goal, most):
    prices = dict(web[0])
    nears = nears_in(web)
    v = place_to_split(prices, nears)
    found = None
    one = shown(web_less(web, [v]), goal - prices[v], most - 2)
    if one.found is not None:
        found = sorted(one.found + [v])
        goal = cost_of(web, found)
    instead = cost_near(prices, nears, v)
    other = shown(web_less(web, nears[v] + [v]), goal - instead, most - 1 - one.size)
    if other.found is not None:
        found = sorted(other.found + nears[v])
    claim = min(prices[v] + one.claim, instead + other.claim)
    return Shown(("split", v, one.proof, other.proof), claim, 1 + one.size + other.size, found)


def case_shown(web, goal, most):
    step = next_step(web)
    if step is not None:
        return step_shown(web, step, goal, most)
    pieces = parts(web)
    if len(pieces) > 1 and len(pieces) < most:
        return parts_shown(web, pieces, goal, most)
    if most > 2:
        return split_shown(web, goal, most)
    return bound_shown(web)


# Sought is a tree of at most so many tuples that claims the goal at least, or else the least cost, with such a set.
def shown(web, goal, most):
    bound = bound_shown(web)
    some = lean(web, [place for place, price in web[0]])
    cost = cost_of(web, some)
    best = some if cost < goal else None
    if bound.claim >= min(goal, cost) or most < 2:
        return Shown(bound.proof, bound.claim, 1, best)
    case = case_shown(web, min(goal, cost), most)
    if case.found is not None:
        best = case.found
    # So no tree claims less than its web's bound, which is never less than half of what the cheapest halves cost.
    if case.claim <= bound.claim:
        return Shown(bound.proof, bound.claim, 1, best)
    return Shown(case.proof, case.claim, case.size, best)


def least_of(web, most):
    look_at_web(web)
    most = min(most, MOST_TUPLES)
    first = shown(web, 1 + sum([price for place, price in web[0]]), MOST_TUPLES)
    some = first.found
    cost = cost_of(web, some)
    last = first
    # With what is known by now as the goal fewer tuples may be enough.
    if first.size > most or first.claim < cost:
        last = shown(web, cost, most)
        some = some if last.found is None else last.found
        cost = cost_of(web, some)
    if last.claim < cost:
        return ("open", some, last.claim, last.proof)
    return ("least", some, last.proof)
