"""What the tests share: things of any kind, webs by chance from a fixed seed, ways of comparing."""

import copy
import itertools
import random


class Other:
    """A thing of a kind that the program knows nothing of."""


OTHER = Other()

ANYTHING = [
    None, True, False, 0, 1, 2, -1, 999, 1000, 10 ** 12, 10 ** 59, -10 ** 59,
    "", "a", "1", "all", "ring", "place 1 1", b"", b"1",
    [], [1], [[1]], [None], [True], ["1"], [[], {}], [1, 2], [(1, 2)], [{}],
    (), (1,), (1, 2), (1, 2, 3), ([],), ([], []), ([], [], []), (None, None), ([1], {}),
    {}, {1: 2}, {"places": [], "ties": []}, {1}, frozenset([1]), OTHER, Other, len, range(3),
]

NO_WEBS = [thing for thing in ANYTHING if thing != ([], [])]

EMPTY = ([], [])
PATH = ([(1, 5), (3, 2), (4, 7), (9, 1)], [(1, 3), (3, 4), (4, 9)])
TRIANGLE = ([(0, 3), (1, 4), (2, 5)], [(0, 1), (0, 2), (1, 2)])
SCATTERED = ([(0, 1), (2, 1), (5, 3), (7, 2), (8, 9), (999, 4)], [(0, 8), (2, 999), (5, 8)])


def alike(one, other):
    """Equal kind by kind: True is no 1 here, at any depth."""
    if type(one) is not type(other):
        return False
    if isinstance(one, (list, tuple)):
        return len(one) == len(other) and all(alike(a, b) for a, b in zip(one, other))
    if isinstance(one, dict):
        return alike(list(one.items()), list(other.items()))
    return one == other


def lists_in(thing):
    """Every list in the thing, as often as it stands there."""
    if isinstance(thing, list):
        return [thing] + [found for part in thing for found in lists_in(part)]
    if isinstance(thing, tuple):
        return [found for part in thing for found in lists_in(part)]
    return []


def copied(thing):
    return copy.deepcopy(thing)


def chance_web(rng, many=None, most_price=9, density=None):
    many = rng.randrange(0, 8) if many is None else many
    density = rng.random() if density is None else density
    numbers = sorted(rng.sample(range(1000), many))
    places = [(number, rng.randint(1, most_price)) for number in numbers]
    pairs = list(itertools.combinations(numbers, 2))
    ties = [pair for pair in pairs if rng.random() < density]
    if len(ties) > 120:
        ties = sorted(rng.sample(ties, 120))
    return (places, ties)


def chance_webs(many, seed=1):
    rng = random.Random(seed)
    return [chance_web(rng) for _ in range(many)]


def all_sets(web):
    numbers = [place for place, _ in web[0]]
    for size in range(len(numbers) + 1):
        for some in itertools.combinations(numbers, size):
            yield list(some)


def touches(web, some):
    return all(one in some or other in some for one, other in web[1])


def cost(web, some):
    return sum(price for place, price in web[0] if place in some)


def least_cost(web):
    return min(cost(web, some) for some in all_sets(web) if touches(web, some))


def line_of(many, price=1):
    """A web of so many places, each tied to the next."""
    return ([(k, price) for k in range(many)], [(k, k + 1) for k in range(many - 1)])


def full_ties(many, count):
    """The first so many ties of a web of so many places, sorted."""
    return list(itertools.combinations(range(many), 2))[:count]
