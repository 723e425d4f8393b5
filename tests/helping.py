"""What the tests share: things of any kind, webs by chance from a fixed seed, ways of comparing."""

import copy
import itertools
import random


class Other:
    """A thing of a kind that the program knows nothing of."""


OTHER = Other()

ANYTHING = [
    None, True, False, 0, 1, 2, -1, 999, 1000, 10 ** 12, 10 ** 59, -10 ** 59,
    "", "a", "1", "all", "ring", "place 1 1", b"", b"1",
    [], [1], [[1]], [None], [True], ["1"], [[], {}], [1, 2], [(1, 2)], [{}],
    (), (1,), (1, 2), (1, 2, 3), ([],), ([], []), ([], [], []), (None, None), ([1], {}),
    {}, {1: 2}, {"places": [], "ties": []}, {1}, frozenset([1]), OTHER, Other, len, range(3),
]

NO_WEBS = [thing for thing in ANYTHING if thing != ([], [])]

EMPTY = ([], [])
PATH = ([(1, 5), (3, 2), (4, 7), (9, 1)], [(1, 3), (3, 4), (4, 9)])
TRIANGLE = ([(0, 3), (1, 4), (2, 5)], [(0, 1), (0, 2), (1, 2)])
SCATTERED = ([(0, 1), (2, 1), (5, 3), (7, 2), (8, 9), (999, 4)], [(0, 8), (2, 999), (5, 8)])


def alike(one, other):
    """Equal kind by kind: True is no 1 here, at any depth."""
    if type(one) is not type(other):
        return False
    if isinstance(one, (list, tuple)):
        return len(one) == len(other) and all(alike(a, b) for a, b in zip(one, other))
    if isinstance(one, dict):
        return alike(list(one.items()), list(other.items()))
    return one == other


def lists_in(thing):
    """Every list in the thing, as often as it stands there."""
    if isinstance(thing, list):
        return [thing] + [found for part in thing for found in lists_in(part)]
    if isinstance(thing, tuple):
        return [found for part in thing for found in lists_in(part)]
    return []


def copied(thing):
    return copy.deepcopy(thing)


def chance_web(rng, many=None, most_price=9, density=None):
    many = rng.randrange(0, 8) if many is None else many
    density = rng.random() if density is None else density
    numbers = sorted(rng.sample(range(1000), many))
    places = [(number, rng.randint(1, most_price)) for number in numbers]
    pairs = list(itertools.combinations(numbers, 2))
    ties = [pair for pair in pairs if rng.random() < density]
    if len(ties) > 120:
        ties = sorted(rng.sample(ties, 120))
    return (places, ties)


def chance_webs(many, seed=1):
    rng = random.Random(seed)
    return [chance_web(rng) for _ in range(many)]


def all_sets(web):
    numbers = [place for place, _ in web[0]]
    for size in range(len(numbers) + 1):
        for some in itertools.combinations(numbers, size):
            yield list(some)


def touches(web, some):
    return all(one in some or other in some for one, other in web[1])


def cost(web, some):
    return sum(price for place, price in web[0] if place in some)


def least_cost(web):
    return min(cost(web, some) for some in all_sets(web) if touches(web, some))


def line_of(many, price=1):
    """A web of so many places, each tied to the next."""
    return ([(k, price) for k in range(many)], [(k, k + 1) for k in range(many - 1)])


def full_ties(many, count):
    """The first so many ties of a web of so many places, sorted."""
    return list(itertools.combinations(range(many), 2))[:count]


def touching_sets(web):
    return [some for some in all_sets(web) if touches(web, some)]


def least_sets(web):
    found = touching_sets(web)
    least = min(cost(web, some) for some in found)
    return [some for some in found if cost(web, some) == least]


def all_halves(web):
    """Every row of noughts, halves and ones that are halves of the web, as dicts."""
    numbers = [place for place, _ in web[0]]
    for row in itertools.product((0, 1, 2), repeat=len(numbers)):
        halves = dict(zip(numbers, row))
        if all(halves[one] + halves[other] >= 2 for one, other in web[1]):
            yield halves


def halved_cost(web, halves):
    return sum(price * halves[place] for place, price in web[0])


def cheapest_halves(web):
    found = list(all_halves(web))
    least = min(halved_cost(web, halves) for halves in found)
    return [halves for halves in found if halved_cost(web, halves) == least]


def alike_in_all(web):
    """Of each place the nought or the one that all cheapest halves have there, else a half."""
    rows = cheapest_halves(web)
    told = []
    for place, _ in web[0]:
        met = {row[place] for row in rows}
        told.append((place, min(met) if met in ({0}, {2}) else 1))
    return told


def is_number(thing):
    return isinstance(thing, int) and not isinstance(thing, bool)


def are_numbers(things, many):
    return isinstance(things, tuple) and len(things) == many and all(is_number(thing) for thing in things)


def paper_reads(web, thing):
    """A plain reading of what is let by as a paper of halves."""
    if not isinstance(thing, tuple) or len(thing) != 2 or not all(isinstance(part, list) for part in thing):
        return False
    halves, dues = thing
    if not all(are_numbers(pair, 2) for pair in halves) or not all(are_numbers(due, 3) for due in dues):
        return False
    if [place for place, _ in halves] != [place for place, _ in web[0]] or any(h not in (0, 1, 2) for _, h in halves):
        return False
    told = dict(halves)
    if any(told[one] + told[other] < 2 for one, other in web[1]):
        return False
    ties = [due[:2] for due in dues]
    if ties != sorted(set(ties)) or any(tie not in web[1] for tie in ties) or any(due[2] < 1 for due in dues):
        return False
    if any(sum(due[2] for due in dues if place in due[:2]) > 2 * price for place, price in web[0]):
        return False
    return sum(due[2] for due in dues) == halved_cost(web, told)


def spoilt(thing):
    """The thing missed by one: at each place within it, in many ways."""
    told = [None, "x", [thing], (thing,), {}, OTHER]
    if isinstance(thing, (list, tuple)):
        kind = type(thing)
        told.append(tuple(thing) if kind is list else list(thing))
        for at in range(len(thing)):
            told.append(thing[:at] + thing[at + 1:])
            told.append(thing[:at + 1] + thing[at:])
            if at:
                told.append(thing[:at - 1] + kind([thing[at], thing[at - 1]]) + thing[at + 1:])
            told += [thing[:at] + kind([part]) + thing[at + 1:] for part in spoilt(thing[at])]
        told.append(thing + kind([0]))
    elif is_number(thing):
        told += [thing + 1, thing - 1, -thing, str(thing), True, False, [], 10 ** 59]
    elif isinstance(thing, str):
        told += ["", thing + "s", thing[:-1], thing.upper(), [thing], 0]
    return told


def nears_of(web):
    return {place: {b if a == place else a for a, b in web[1] if place in (a, b)} for place, _ in web[0]}


def less_places(web, gone):
    return ([pair for pair in web[0] if pair[0] not in gone],
            [tie for tie in web[1] if tie[0] not in gone and tie[1] not in gone])


def repriced(web, place, price):
    return ([(p, price if p == place else q) for p, q in web[0]], list(web[1]))


def step_reads(web, step):
    """A plain reading of what a step tells: the smaller web and the added, or None where it doesn't fit."""
    if not isinstance(step, tuple) or not step or not isinstance(step[0], str):
        return None
    word, rest = step[0], step[1:]
    prices, nears = dict(web[0]), nears_of(web)
    if word == "halves":
        if len(rest) != 1 or not paper_reads(web, rest[0]) or all(h == 1 for _, h in rest[0][0]):
            return None
        gone = [place for place, h in rest[0][0] if h != 1]
        return less_places(web, gone), sum(prices[place] for place, h in rest[0][0] if h == 2)
    if any(not is_number(place) or place not in prices for place in rest):
        return None
    return rule_reads(web, step, (prices, nears))


def rule_reads(web, step, known):
    word, rest = step[0], step[1:]
    if word in ("lone", "near", "leaf", "fold") and len(rest) == 1:
        return one_reads(web, word, rest[0], *known)
    if word in ("over", "twins") and len(rest) == 2:
        return two_reads(web, word, rest[0], rest[1], *known)
    return None


def one_reads(web, word, v, prices, nears):
    together = sum(prices[place] for place in nears[v])
    if word == "lone" and not nears[v]:
        return less_places(web, [v]), 0
    if word == "near" and nears[v] and together <= prices[v]:
        return less_places(web, {v} | nears[v]), together
    if word == "leaf" and len(nears[v]) == 1:
        u = min(nears[v])
        if prices[u] > prices[v]:
            return repriced(less_places(web, [v]), u, prices[u] - prices[v]), prices[v]
    if word == "fold" and len(nears[v]) >= 2:
        if any(pair in web[1] for pair in itertools.combinations(sorted(nears[v]), 2)):
            return None
        if together > prices[v] and together - min(prices[place] for place in nears[v]) <= prices[v]:
            left = less_places(web, nears[v])
            drawn = {tuple(sorted((v, far))) for place in nears[v] for far in nears[place] if far != v}
            return repriced((left[0], sorted(left[1] + list(drawn))), v, together - prices[v]), prices[v]
    return None


def two_reads(web, word, u, v, prices, nears):
    if word == "over" and v in nears[u] and nears[u] - {v} <= nears[v] and prices[v] <= prices[u]:
        return less_places(web, [v]), prices[v]
    if word == "twins" and u != v and v not in nears[u] and nears[u] and nears[u] == nears[v]:
        return repriced(less_places(web, [v]), u, prices[u] + prices[v]), 0
    return None


def step_tries(web):
    """Every tuple of the first six words and places of the web, of one word sorted."""
    numbers = [place for place, _ in web[0]]
    for word in ("lone", "near", "leaf", "over", "twins", "fold"):
        if word in ("over", "twins"):
            yield from ((word, u, v) for u in numbers for v in numbers)
        else:
            yield from ((word, v) for v in numbers)


def refusal(ask, *given):
    """The refusal's class and fields, or None where something is told."""
    try:
        ask(*given)
    except ValueError as error:
        return (type(error), dict(vars(error)))
    return None


def ring_of(many, price=1):
    """A web of so many places, each tied to the next, the last to the first."""
    return ([(k, price) for k in range(many)], sorted([(k, k + 1) for k in range(many - 1)] + [(0, many - 1)]))


def renamed(web, names):
    """A plain reading of the web called otherwise."""
    return (sorted((names[place], price) for place, price in web[0]),
            sorted(tuple(sorted((names[one], names[other]))) for one, other in web[1]))


def mixed_up(rng, web):
    """The web with its places' numbers in any order, anywhere from 0 to 999."""
    numbers = rng.sample(range(1000), len(web[0]))
    return renamed(web, dict(zip([place for place, _ in web[0]], numbers)))


def grove(rng, many, most_price=1, roots=1, reach=None):
    """A web without rings: each place but the first ones is tied to one ahead of it, at most so far ahead."""
    places = [(k, rng.randint(1, most_price)) for k in range(many)]
    ties = []
    for k in range(roots, many):
        least = 0 if reach is None else max(0, k - reach)
        ties.append((rng.randrange(least, k), k))
    return (places, sorted(ties))


def beside_each_other(webs):
    """All webs together, their places numbered anew so that none is in common."""
    places, ties, start = [], [], 0
    for web in webs:
        names = {place: start + at for at, (place, _) in enumerate(web[0])}
        moved = renamed(web, names)
        places, ties, start = places + moved[0], ties + moved[1], start + len(web[0])
    return (places, sorted(ties))


def is_ring_of(web, ring):
    """Whether it is a list of three or more unlike places, each tied to the next, the last to the first."""
    if not isinstance(ring, list) or not all(is_number(place) for place in ring) or len(ring) < 3:
        return False
    ties = set(web[1])
    return len(set(ring)) == len(ring) and all(
        tuple(sorted((ring[at - 1], ring[at]))) in ties for at in range(len(ring)))


def many_tuples(tree):
    if tree[0] == "bound":
        return 1
    if tree[0] == "step":
        return 1 + many_tuples(tree[2])
    if tree[0] == "parts":
        return 1 + sum(many_tuples(one) for one in tree[1])
    return 1 + many_tuples(tree[2]) + many_tuples(tree[3])


def circled(many, jumps):
    """A ring with ties across: each place tied to those so many further on."""
    return sorted({tuple(sorted((k, (k + jump) % many))) for k in range(many) for jump in jumps if jump % many})


def between_one_another(many, size, jumps):
    """So many parts of one form, their places between those of the others."""
    ties = sorted((many * a + at, many * b + at) for at in range(many) for a, b in circled(size, jumps))
    return ([(k, 1) for k in range(many * size)], ties)


def five_by_five(many):
    """So many parts of ten places, each near three others, without a ring of fewer than five."""
    one = sorted([(k, k + 1) for k in range(4)] + [(0, 4)] + [(k, k + 5) for k in range(5)]
                 + [tuple(sorted((5 + k, 5 + (k + 2) % 5))) for k in range(5)])
    ties = [(10 * at + a, 10 * at + b) for at in range(many) for a, b in one]
    return ([(k, 1) for k in range(10 * many)], ties)


def chance_rows(rng, web):
    """Rows that stand, as great as their places let them be."""
    prices = {place: 2 * price for place, price in web[0]}
    tied = set(web[1]) | {(b, a) for a, b in web[1]}
    found = []
    for _ in range(12):
        size = rng.choice([2, 2, 3, 3, 4, 5])
        if size > len(prices):
            continue
        some = rng.sample(sorted(prices), size)
        ring = size % 2 == 1 and all((some[k - 1], some[k]) in tied for k in range(size))
        full = all(pair in tied for pair in itertools.combinations(sorted(some), 2))
        room = min(prices[place] for place in some)
        if room and (ring or full):
            amount = rng.randint(1, room)
            word = "ring" if ring and (not full or rng.random() < 0.5) else "all"
            found.append((word, sorted(some) if word == "all" else some, amount))
            for place in some:
                prices[place] -= amount
    return found
