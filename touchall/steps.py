"""Steps: what makes a web smaller, and how touching sets go forth and back."""

from touchall.errors import NoSet, NoStep
from touchall.folds import fold_back, fold_change, fold_fits, fold_forth, fold_ties
from touchall.halves import paper_stands
from touchall.kinds import marked
from touchall.parts import web_of
from touchall.rules import rule_back, rule_change, rule_fits, rule_forth
from touchall.sets import left_by
from touchall.webs import are_places, look_at_web, nears_in


def halves_fit(web, step):
    if len(step) != 2 or not paper_stands(web, step[1]):
        return False
    return any([h != 1 for place, h in step[1][0]])


# The web is one, here and wherever a name tells of a web as known: it was looked at, or comes of one that was.
def fits_known(web, thing):
    if not isinstance(thing, tuple) or len(thing) < 2 or not isinstance(thing[0], str):
        return False
    if thing[0] == "halves":
        return halves_fit(web, thing)
    prices = dict(web[0])
    if not are_places(prices, thing[1:]):
        return False
    if thing[0] == "fold":
        return len(thing) == 2 and fold_fits(prices, nears_in(web), thing[1])
    return rule_fits(prices, nears_in(web), thing)


def ones_of(step):
    return [place for place, h in step[1][0] if h == 2]


def places_unless_half(step):
    return [place for place, h in step[1][0] if h != 1]


def change_by(web, step):
    prices = dict(web[0])
    if step[0] == "halves":
        return (places_unless_half(step), {}, sum([prices[place] for place in ones_of(step)]))
    if step[0] == "fold":
        return fold_change(prices, nears_in(web), step[1])
    return rule_change(prices, nears_in(web), step)


def after_known(web, step):
    change = change_by(web, step)
    gone = marked(change[0])
    prices = dict(web[0])
    prices.update(change[1])
    places = [(place, prices[place]) for place in prices if place not in gone]
    ties = web_of(web, dict(places))[1]
    if step[0] == "fold":
        ties = sorted(ties + fold_ties(nears_in(web), step[1]))
    return ((places, ties), change[2])


def back_known(web, step, some):
    if step[0] == "halves":
        return sorted(some + ones_of(step))
    if step[0] == "fold":
        return sorted(fold_back(nears_in(web), step[1], some))
    return sorted(rule_back(nears_in(web), step, some))


def forth_known(web, step, some):
    if step[0] == "halves":
        gone = marked(places_unless_half(step))
        return [place for place in some if place not in gone]
    if step[0] == "fold":
        return sorted(fold_forth(nears_in(web), step[1], some))
    return rule_forth(nears_in(web), step, some)


def look_at_step(web, thing):
    look_at_web(web)
    if not fits_known(web, thing):
        raise NoStep(0)


# What is no set at all is refused by left_by.
def look_at_touching(web, thing):
    if left_by(web, thing):
        raise NoSet("a tie is left")


def fits(web, thing):
    look_at_web(web)
    return fits_known(web, thing)


def after(web, step):
    look_at_step(web, step)
    return after_known(web, step)


def back(web, step, some):
    look_at_step(web, step)
    look_at_touching(after_known(web, step)[0], some)
    return back_known(web, step, some)


def forth(web, step, some):
    look_at_step(web, step)
    look_at_touching(web, some)
    return forth_known(web, step, some)
