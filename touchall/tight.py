"""Whether rows pay a set to the last."""

from touchall.rows import given_for_one, look_at_rows, paid_by
from touchall.sets import look_at_set


def many_in(places, some):
    return len([place for place in places if place in some])


def is_tight(web, rows, some):
    look_at_rows(web, rows)
    look_at_set(web, some)
    prices = dict(web[0])
    paid = paid_by(rows)
    if any([paid.get(place, 0) != 2 * prices[place] for place in some]):
        return False
    return all([many_in(row[1], some) == given_for_one(row) for row in rows])
