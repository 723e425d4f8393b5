"""Webs, and what is told of them, with their places called otherwise."""

from touchall.errors import NoCalls
from touchall.kinds import is_pair_of_wholes
from touchall.trees import cases_of
from touchall.webs import LAST_PLACE, look_at_web, tie_of


def are_calls(web, thing):
    if not isinstance(thing, list) or len(thing) != len(web[0]):
        return False
    for call, known in zip(thing, web[0]):
        if not is_pair_of_wholes(call) or call[0] != known[0] or not 0 <= call[1] <= LAST_PLACE:
            return False
    return len(set([number for place, number in thing])) == len(thing)


def look_at_calls(web, thing):
    look_at_web(web)
    if not are_calls(web, thing):
        raise NoCalls("no calls of the web")


def names_by(web, calls):
    look_at_calls(web, calls)
    return dict(calls)


# Here, and wherever a name tells that something is named, names is a dict of what each place is called.
def named(names, places):
    return [names[place] for place in places]


def calls_back(web, calls):
    look_at_calls(web, calls)
    return sorted([(number, place) for place, number in calls])


def called_web(web, calls):
    names = names_by(web, calls)
    places = [(names[place], price) for place, price in web[0]]
    ties = [tie_of(names[one], names[other]) for one, other in web[1]]
    return (sorted(places), sorted(ties))


def called_set(web, calls, some):
    return sorted(named(names_by(web, calls), some))


def row_named(names, row):
    places = named(names, row[1])
    # A ring's places stand in the order of its ties, the places of an all in that of their numbers.
    return (row[0], sorted(places) if row[0] == "all" else places, row[2])


def called_rows(web, calls, rows):
    names = names_by(web, calls)
    return [row_named(names, row) for row in rows]


def halves_named(names, halves):
    return sorted([(names[place], h) for place, h in halves])


def called_halves(web, calls, halves):
    return halves_named(names_by(web, calls), halves)


def dues_named(names, dues):
    return sorted([tie_of(names[one], names[other]) + (amount,) for one, other, amount in dues])


def called_dues(web, calls, dues):
    return dues_named(names_by(web, calls), dues)


# Links of chains, and steps but those of halves, are a word and places.
def words_named(names, thing):
    return (thing[0],) + tuple(named(names, thing[1:]))


def called_chain(web, calls, chain):
    names = names_by(web, calls)
    return [words_named(names, link) for link in chain]


def step_named(names, step):
    if step[0] == "halves":
        return ("halves", (halves_named(names, step[1][0]), dues_named(names, step[1][1])))
    return words_named(names, step)


def called_step(web, calls, step):
    return step_named(names_by(web, calls), step)


def least_named(names, web):
    return min(named(names, dict(web[0])))


# Its trees are called already, in the order in which they stood.
def case_named(names, thing, kids, trees):
    if thing[0] == "bound":
        return ("bound", [row_named(names, row) for row in thing[1]])
    if thing[0] == "step":
        return ("step", step_named(names, thing[1]), trees[0])
    if thing[0] == "split":
        return ("split", names[thing[1]], trees[0], trees[1])
    ranked = [(least_named(names, kid[0]), tree) for kid, tree in zip(kids, trees)]
    return ("parts", [tree for rank, tree in sorted(ranked, key=lambda pair: pair[0])])


def called_tree(web, calls, tree):
    names = names_by(web, calls)
    # Gone through from the last one, each tuple finds its trees called, the first one on top.
    ready = []
    for thing, added, kids in reversed(cases_of(web, tree)):
        trees = [ready.pop() for kid in kids]
        ready.append(case_named(names, thing, kids, trees))
    return ready.pop()
