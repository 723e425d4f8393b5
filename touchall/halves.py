"""Halves of a web: noughts, halves and ones, with dues that show that none cost less."""

from touchall.flows import FIRST, SINK, SOURCE, Net
from touchall.kinds import is_pair_of_wholes, is_tuple_of, is_whole, marked
from touchall.webs import look_at_web


def halves_stand(web, thing):
    if not isinstance(thing, list) or len(thing) != len(web[0]):
        return False
    for pair, known in zip(thing, web[0]):
        if not is_pair_of_wholes(pair) or pair[0] != known[0] or not 0 <= pair[1] <= 2:
            return False
    halves = dict(thing)
    return all([halves[one] + halves[other] >= 2 for one, other in web[1]])


def is_due(thing):
    return is_tuple_of(thing, 3) and all([is_whole(part) for part in thing]) and thing[2] >= 1


def due_at(dues):
    paid = {}
    for one, other, amount in dues:
        paid[one] = paid.get(one, 0) + amount
        paid[other] = paid.get(other, 0) + amount
    return paid


def dues_stand(web, thing):
    if not isinstance(thing, list):
        return False
    ties = marked(web[1])
    last = (-1, -1)
    for due in thing:
        if not is_due(due) or due[:2] not in ties or due[:2] <= last:
            return False
        last = due[:2]
    paid = due_at(thing)
    return all([paid.get(place, 0) <= 2 * price for place, price in web[0]])


def cost_in_halves(web, halves):
    prices = dict(web[0])
    return sum([prices[place] * h for place, h in halves])


def paper_stands(web, thing):
    if not is_tuple_of(thing, 2) or not halves_stand(web, thing[0]) or not dues_stand(web, thing[1]):
        return False
    return sum([amount for one, other, amount in thing[1]]) == cost_in_halves(web, thing[0])


def lets_halves(web, thing):
    look_at_web(web)
    return paper_stands(web, thing)


def halves_cost(web, halves):
    look_at_web(web)
    return cost_in_halves(web, halves)


# Each place stands twice, once on either side, and each tie goes across both ways: so the cheapest halves cost just
# what a cheapest cut of the net does, and what flows across for a tie is its due.
def doubled(web):
    many = len(web[0])
    plenty = 1 + sum([price for place, price in web[0]])
    spots = dict([(pair[0], FIRST + at) for at, pair in enumerate(web[0])])
    arcs = [(SOURCE, spots[place], price) for place, price in web[0]]
    arcs += [(spots[place] + many, SINK, price) for place, price in web[0]]
    for one, other in web[1]:
        arcs.append((spots[one], spots[other] + many, plenty))
        arcs.append((spots[other], spots[one] + many, plenty))
    return Net(FIRST + 2 * many, arcs)


def dues_flowing(web, flows):
    across = flows[2 * len(web[0]):]
    amounts = [there + back for there, back in zip(across[0::2], across[1::2])]
    return [(tie[0], tie[1], amount) for tie, amount in zip(web[1], amounts) if amount > 0]


# What is reached from the source is on its side of every cheapest cut: so a place has a nought or a one here just
# where all cheapest halves have the same one.
def halves_reached(web, reached):
    many = len(web[0])
    halves = []
    for at, pair in enumerate(web[0]):
        left = 0 if FIRST + at in reached else 1
        right = 1 if FIRST + many + at in reached else 0
        halves.append((pair[0], left + right))
    return halves


def told_paper(web):
    net = doubled(web)
    net.fill(SOURCE, SINK)
    halves = halves_reached(web, marked(net.reached_from(SOURCE)))
    return (halves, dues_flowing(web, net.flows()))


def halves_of(web):
    look_at_web(web)
    return told_paper(web)
