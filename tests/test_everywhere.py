"""What holds everywhere [2]: nothing handed in is changed or kept, told lists are the asker's own."""

import unittest

from tests.helping import (EMPTY, PATH, SCATTERED, TRIANGLE, alike, chance_webs, copied, lists_in, step_reads,
                           step_tries)
from touchall.calls import (called_chain, called_dues, called_halves, called_rows, called_set, called_step,
                            called_tree, called_web, calls_back, look_at_calls)
from touchall.edges import edge_of, lets_edge
from touchall.errors import TouchError
from touchall.fixed import fixed_by, fixed_of, fixed_paper, lets_fixed
from touchall.forests import forest_least
from touchall.halves import halves_cost, halves_of, lets_halves
from touchall.keeper import Keeper
from touchall.listing import all_least
from touchall.pairing import pairing_of
from touchall.parts import beside, parts, without
from touchall.rows import bound_of, look_at_rows, worth_of
from touchall.seeking import least_of
from touchall.sets import cost_of, is_set, lean, left_by, needless
from touchall.shrinking import fitting, made_small
from touchall.sides import sides_of
from touchall.steps import after, back, fits, forth
from touchall.strings import edge_behind, sets_by_size, string_least
from touchall.texts import read_web, written_web
from touchall.tight import is_tight
from touchall.trees import claim_of
from touchall.walks import back_all, forth_all, walked
from touchall.webs import look_at_web, near, places_of, price_of

SHARED = []
BAD_WEBS = [([(1, 1), (1, 1)], []), ([(1, 1)], [(1, 1)]), ([[1, 1]], []), [[], []], None]


def some_of(web):
    return [place for place, _ in web[0]][::2]


def calls_on(web):
    some = some_of(web)
    whole = [place for place, _ in web[0]]
    far = ([(place + 1 if place % 2 == 0 else place - 1, 1) for place in whole[:1]], [])
    told = [(look_at_web, (web,)), (places_of, (web,)), (parts, (web,)), (without, (web, some + some)),
            (without, (web, [])), (beside, (web, EMPTY)), (beside, (EMPTY, web)), (beside, (web, web)),
            (beside, (web, far)), (without, (web, whole + [[1]])), (is_set, (web, some)), (is_set, (web, None)),
            (near, (web, [1])), (price_of, (web, None))]
    for place in whole[:3]:
        told += [(near, (web, place)), (price_of, (web, place))]
    for given in (some, whole, [], whole[::-1], [[1]]):
        told += [(ask, (web, given)) for ask in (left_by, cost_of, needless, lean)]
    text = written_web(web)
    told += [(written_web, (web,)), (read_web, (text,)), (read_web, (text + "\n",)), (read_web, ([text],))]
    return (told + calls_with_rows(web, some) + calls_with_halves(web) + calls_with_steps(web)
            + calls_with_walks(web) + calls_with_trees(web) + calls_of_shapes(web) + calls_with_edges(web)
            + calls_with_calls(web))


def calls_with_rows(web, some):
    rows = [("all", list(tie), 1) for tie in web[1]]
    told = []
    for given in (rows, rows + [("all", list(reversed(tie)), 1) for tie in web[1]], rows * 9, [None], [[]], None, []):
        told += [(ask, (web, given)) for ask in (look_at_rows, worth_of, bound_of)]
        told += [(is_tight, (web, given, some)), (is_tight, (web, given, [[1]]))]
    return told


def calls_with_halves(web):
    paper = fixed_paper(web)
    told = [(halves_of, (web,)), (fixed_paper, (web,)), (fixed_of, (web,)), (fixed_by, (paper[2],)),
            (halves_cost, (web, paper[0]))]
    for given in (paper[:2], (paper[0], paper[0]), ([], paper[1]), [list(paper[0]), paper[1]], None, ([[1]], [{}])):
        told += [(lets_halves, (web, given))]
    for given in (paper, paper[:2] + (paper[2] * 2,), paper[:2], paper[:2] + ([["loose", 1]],), None):
        told += [(lets_fixed, (web, given))]
    return told


def some_steps(web):
    found = [step for step in step_tries(web) if step_reads(web, step) is not None]
    few = {step[0]: step for step in found}
    return list(few.values()) + [("halves", halves_of(web))]


def calls_with_steps(web):
    whole = [place for place, _ in web[0]]
    told = []
    for step in some_steps(web) + [("lone", [1]), ("halves", ([[1]], [])), None, ["near", 1]]:
        told += [(fits, (web, step)), (after, (web, step))]
        read = step_reads(web, step)
        small = [place for place, _ in read[0][0]] if read is not None else []
        for some in (whole, small, [[1]], None):
            told += [(back, (web, step, some)), (forth, (web, step, some))]
    return told


def calls_with_walks(web):
    whole = [place for place, _ in web[0]]
    steps = made_small(web)
    told = [(fitting, (web,)), (made_small, (web,))]
    for given in (steps, [], steps[:2], steps + [None], steps * 2, [("halves", halves_of(web))], None, [[1]]):
        told.append((walked, (web, given)))
        for some in (whole, [], [[1]], None):
            told += [(back_all, (web, given, some)), (forth_all, (web, given, some))]
    return told


def calls_with_trees(web):
    told = [(least_of, (web, most)) for most in (1, 3, 400)]
    for most in (1, 3, 400):
        tree = least_of(web, most)[-1]
        told += [(claim_of, (web, tree)), (claim_of, (web, ("parts", [tree]))), (claim_of, (web, ("bound", [[1]])))]
    return told


def calls_of_shapes(web):
    told = [(ask, (web,)) for ask in (sides_of, pairing_of, forest_least, string_least, sets_by_size)]
    told += [(all_least, (web, most)) for most in (1, 2, 200)]
    return told + [(edge_behind, (web, place)) for place in [pair[0] for pair in web[0]] + [[1], None, True]]


def calls_with_edges(web):
    told = [(edge_of, (web, [1], 400)), (lets_edge, (web, [1], None))]
    for place, _ in web[0][:2]:
        thing = edge_of(web, place, 400)
        told += [(edge_of, (web, place, most)) for most in (1, 400)]
        told += [(lets_edge, (web, place, one)) for one in (thing, thing[:5] + (None, [[1]]), [thing], ([], []))]
    return told


def calls_with_calls(web):
    numbers = [place for place, _ in web[0]]
    calls = [(place, 999 - place) for place in numbers]
    paper = fixed_paper(web)
    row = ("all", list(web[1][0]), 1) if web[1] else None
    rows = [row, row] if row else []
    told = [(look_at_calls, (web, [[1]])), (called_web, (web, [[1]])), (called_tree, (web, [[1]], [[1]]))]
    told += [(ask, (web, calls)) for ask in (look_at_calls, calls_back, called_web)]
    told += [(called_set, (web, calls, numbers)), (called_rows, (web, calls, rows)),
             (called_halves, (web, calls, paper[0])), (called_dues, (web, calls, paper[1])),
             (called_chain, (web, calls, paper[2])), (called_tree, (web, calls, ("bound", rows))),
             (called_tree, (web, calls, least_of(web, 400)[-1])),
             (called_tree, (web, calls, ("parts", [("bound", SHARED)] * len(parts(web)))))]
    return told + [(called_step, (web, calls, step)) for step in some_steps(web)]


def all_calls():
    webs = [EMPTY, PATH, TRIANGLE, SCATTERED, (SHARED, SHARED), ([(3, 4)], [])] + chance_webs(40) + BAD_WEBS
    calls = []
    for web in webs:
        calls += calls_on(web) if web not in BAD_WEBS else refused_calls(web)
    return calls


def refused_calls(web):
    return [(look_at_web, (web,)), (places_of, (web,)), (parts, (web,)), (without, (web, [1])),
            (beside, (web, PATH)), (beside, (PATH, web)), (near, (web, 1)), (price_of, (web, 1)),
            (is_set, (web, [])), (left_by, (web, [])), (cost_of, (web, [])), (needless, (web, [])), (lean, (web, [])),
            (written_web, (web,)), (look_at_rows, (web, [])), (worth_of, (web, [])), (bound_of, (web, [])),
            (is_tight, (web, [], [])), (lets_halves, (web, ([], []))), (halves_cost, (web, [])), (halves_of, (web,)),
            (lets_fixed, (web, ([], [], []))), (fixed_paper, (web,)), (fixed_of, (web,)), (fits, (web, ("lone", 1))),
            (after, (web, ("lone", 1))), (back, (web, ("lone", 1), [])), (forth, (web, ("lone", 1), [])),
            (walked, (web, [])), (back_all, (web, [], [])), (forth_all, (web, [], [])), (fitting, (web,)),
            (made_small, (web,)), (claim_of, (web, ("bound", []))), (least_of, (web, 1)), (sides_of, (web,)),
            (pairing_of, (web,)), (forest_least, (web,)), (edge_behind, (web, 1)), (string_least, (web,)),
            (sets_by_size, (web,)), (all_least, (web, 1)), (edge_of, (web, 1, 1)), (lets_edge, (web, 1, None)),
            (look_at_calls, (web, [])), (calls_back, (web, [])), (called_web, (web, [])), (called_set, (web, [], [])),
            (called_rows, (web, [], [])), (called_halves, (web, [], [])), (called_dues, (web, [], [])),
            (called_chain, (web, [], [])), (called_step, (web, [], ("lone", 1))),
            (called_tree, (web, [], ("bound", []))), (Keeper, (web,))]


def fields_of(error):
    return (type(error).__name__, dict(vars(error)))


def answer(ask, given):
    try:
        return ("told", ask(*given))
    except TouchError as error:
        return ("refused", fields_of(error))


class TestEverywhere(unittest.TestCase):
    def test_what_is_handed_in_stays_as_it_was(self):
        for ask, given in all_calls():
            ahead = copied(given)
            answer(ask, given)
            self.assertTrue(alike(given, ahead), ask.__name__)

    def test_asked_twice_alike_is_told_alike(self):
        for ask, given in all_calls():
            self.assertTrue(alike(answer(ask, given), answer(ask, copied(given))), ask.__name__)

    def test_told_lists_are_new_and_shared_by_no_two_places(self):
        for ask, given in all_calls():
            kind, told = answer(ask, given)
            if kind == "told":
                found = [id(one) for one in lists_in(told)]
                self.assertEqual(len(found), len(set(found)), ask.__name__)
                self.assertFalse(set(found) & {id(one) for one in lists_in(given)}, ask.__name__)

    def test_lists_of_refusals_are_new_and_shared_by_no_two_places(self):
        for ask, given in all_calls():
            kind, told = answer(ask, given)
            # What was handed in as a place is told as it is.
            if kind == "refused" and told[0] != "NoPlace":
                found = [id(one) for one in lists_in(list(told[1].values()))[1:]]
                self.assertEqual(len(found), len(set(found)), ask.__name__)
                self.assertFalse(set(found) & {id(one) for one in lists_in(given)}, ask.__name__)

    def test_changed_told_lists_change_no_later_answer(self):
        for ask, given in all_calls():
            kind, told = answer(ask, given)
            if kind == "told":
                first = copied(told)
                for one in lists_in(told):
                    one.clear()
                    one.append("spoilt")
                self.assertTrue(alike(answer(ask, given), ("told", first)), ask.__name__)

    def test_what_is_done_to_what_was_handed_in_changes_no_answer(self):
        for ask, given in all_calls():
            mine = copied(given)
            kind, told = answer(ask, mine)
            if kind == "told":
                first = copied(told)
                for one in lists_in(mine):
                    one.clear()
                self.assertTrue(alike(told, first), ask.__name__)


if __name__ == "__main__":
    unittest.main()
