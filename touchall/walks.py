"""Steps one behind another, walked forwards and back."""

from touchall.errors import NoStep
from touchall.parts import web_of
from touchall.steps import after_known, back_known, fits_known, forth_known, look_at_touching
from touchall.webs import look_at_web


# Told are the webs ahead of each step and behind the last one, and all that was added.
def webs_along(web, steps):
    look_at_web(web)
    if not isinstance(steps, list):
        raise NoStep(None)
    webs = [web]
    added = 0
    for number, step in enumerate(steps):
        if not fits_known(webs[-1], step):
            raise NoStep(number)
        told = after_known(webs[-1], step)
        webs.append(told[0])
        added += told[1]
    return (webs, added)


def walked(web, steps):
    told = webs_along(web, steps)
    last = told[0][-1]
    # Without steps the last web is the one that was handed in, whose lists are not the asker's to get.
    return (web_of(last, dict(last[0])), told[1])


def back_all(web, steps, some):
    webs = webs_along(web, steps)[0]
    look_at_touching(webs[-1], some)
    here = list(some)
    for at in range(len(steps) - 1, -1, -1):
        here = back_known(webs[at], steps[at], here)
    return here


def forth_all(web, steps, some):
    webs = webs_along(web, steps)[0]
    look_at_touching(web, some)
    here = list(some)
    for known, step in zip(webs, steps):
        here = forth_known(known, step, here)
    return here
