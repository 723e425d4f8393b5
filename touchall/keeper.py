"""A keeper of a small web and of a cheapest set of it, while places, ties and prices come and go."""

from touchall.deeds import less_place, less_tie, with_place, with_price, with_tie
from touchall.errors import Bare, TooMany
from touchall.parts import web_of
from touchall.seeking import least_of
from touchall.sets import cost_of, left_by
from touchall.webs import look_at_web

MOST_KEPT = 10
# With so many tuples a least set of a web of at most ten places is always told.
ENOUGH = 400


def look_at_size(web):
    if len(web[0]) > MOST_KEPT:
        raise TooMany("more places than a keeper keeps")


def is_as_cheap(web, some, best):
    return not left_by(web, some) and cost_of(web, some) == cost_of(web, best)


class Keeper:
    def __init__(self, web):
        look_at_web(web)
        look_at_size(web)
        self.held = web_of(web, dict(web[0]))
        self.chosen = least_of(web, ENOUGH)[1]
        self.past = []

    def put_place(self, place, price):
        behind = with_place(self.held, place, price)
        look_at_size(behind)
        return self.turn_to(behind)

    def take_place(self, place):
        return self.turn_to(less_place(self.held, place))

    def put_tie(self, one, other):
        return self.turn_to(with_tie(self.held, one, other))

    def take_tie(self, one, other):
        return self.turn_to(less_tie(self.held, one, other))

    def set_price(self, place, price):
        return self.turn_to(with_price(self.held, place, price))

    def turn_to(self, behind):
        prices = dict(behind[0])
        left = [place for place in self.chosen if place in prices]
        best = least_of(behind, ENOUGH)[1]
        stayed = is_as_cheap(behind, left, best)
        self.past.append((self.held, self.chosen))
        self.held = behind
        self.chosen = left if stayed else best
        return stayed

    def undo(self):
        if not self.past:
            raise Bare("no deed is left to be undone")
        ahead = self.past.pop()
        self.held = ahead[0]
        self.chosen = ahead[1]

    def web(self):
        return web_of(self.held, dict(self.held[0]))

    def kept(self):
        return list(self.chosen)

    def least(self):
        return cost_of(self.held, self.chosen)

    def tree(self):
        return least_of(self.held, ENOUGH)[2]
