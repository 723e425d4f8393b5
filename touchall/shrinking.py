"""All steps that fit a web, and a web made small by them."""

from touchall.folds import fold_fits
from touchall.halves import told_paper
from touchall.rules import rule_fits
from touchall.steps import after_known
from touchall.webs import look_at_web, nears_in

WORDS = ("lone", "near", "leaf", "over", "twins", "fold")


def tied_pairs(nears):
    pairs = []
    for u in nears:
        pairs += [(u, v) for v in nears[u]]
    return pairs


def rising_pairs(nears):
    places = list(nears)
    pairs = []
    for at, u in enumerate(places):
        pairs += [(u, v) for v in places[at + 1:]]
    return pairs


# The places of nears are rising, so what is told is sorted.
def fitting_by(prices, nears, word):
    if word == "fold":
        return [(word, v) for v in nears if fold_fits(prices, nears, v)]
    if word == "over":
        tries = [(word, u, v) for u, v in tied_pairs(nears)]
    elif word == "twins":
        tries = [(word, u, v) for u, v in rising_pairs(nears)]
    else:
        tries = [(word, v) for v in nears]
    return [step for step in tries if rule_fits(prices, nears, step)]


def fitting(web):
    look_at_web(web)
    prices = dict(web[0])
    nears = nears_in(web)
    told = []
    for word in WORDS:
        told += fitting_by(prices, nears, word)
    return told


def next_step(web):
    prices = dict(web[0])
    nears = nears_in(web)
    for word in WORDS:
        found = fitting_by(prices, nears, word)
        if found:
            return found[0]
    paper = told_paper(web)
    if any([h != 1 for place, h in paper[0]]):
        return ("halves", paper)
    return None


def made_small(web):
    look_at_web(web)
    steps = []
    here = web
    step = next_step(here)
    while step is not None:
        steps.append(step)
        here = after_known(here, step)[0]
        step = next_step(here)
    return steps
