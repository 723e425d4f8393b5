"""What is fixed: places that all cheapest halves, and so all cheapest sets, have or lack, with chains that show it."""

from touchall.halves import due_at, paper_stands, told_paper
from touchall.kinds import is_list_up_to, is_tuple_of, marked
from touchall.webs import are_places, look_at_web, nears_in

MOST_LINKS = 200


def loose_places(web, dues):
    paid = due_at(dues)
    return [place for place, price in web[0] if paid.get(place, 0) < 2 * price]


# Each tie stands there both ways about.
def tied_by_dues(dues):
    tied = {}
    for one, other, amount in dues:
        tied[(one, other)] = True
        tied[(other, one)] = True
    return tied


def is_link(nears, thing):
    if not isinstance(thing, tuple) or not 2 <= len(thing) <= 3 or not isinstance(thing[0], str):
        return False
    if not are_places(nears, thing[1:]):
        return False
    if len(thing) == 2:
        return thing[0] == "loose"
    return thing[0] in ("beside", "tight") and thing[2] in nears[thing[1]]


def chain_stands(web, dues, chain):
    if not is_list_up_to(chain, MOST_LINKS):
        return False
    nears = nears_in(web)
    loose = marked(loose_places(web, dues))
    paid_ties = tied_by_dues(dues)
    ins = {}
    outs = {}
    for link in chain:
        if not is_link(nears, link):
            return False
        if link[0] == "loose" and link[1] not in loose:
            return False
        if link[0] == "beside" and link[1] not in outs:
            return False
        if link[0] == "tight" and (link[1] not in ins or link[1:] not in paid_ties):
            return False
        named = ins if link[0] == "beside" else outs
        named[link[-1]] = True
    return True


def lets_fixed(web, thing):
    look_at_web(web)
    if not is_tuple_of(thing, 3) or not paper_stands(web, thing[:2]):
        return False
    return chain_stands(web, thing[1], thing[2])


def fixed_by(chain):
    ins = marked([link[-1] for link in chain if link[0] == "beside"])
    outs = marked([link[-1] for link in chain if link[0] != "beside"])
    return (sorted(ins), sorted(outs))


def links_from(link, nears, paid_ties):
    last = link[-1]
    if link[0] == "beside":
        return [("tight", last, place) for place in nears[last] if (last, place) in paid_ties]
    return [("beside", last, place) for place in nears[last]]


def chain_for(web, dues):
    nears = nears_in(web)
    paid_ties = tied_by_dues(dues)
    chain = [("loose", place) for place in loose_places(web, dues)]
    # No place is both in and out, so one mark for both is enough to name none twice.
    named = marked([link[-1] for link in chain])
    done = 0
    while done < len(chain):
        here = chain[done]
        for link in links_from(here, nears, paid_ties):
            if link[-1] not in named:
                named[link[-1]] = True
                chain.append(link)
        done += 1
    return chain


def fixed_paper(web):
    look_at_web(web)
    paper = told_paper(web)
    return (paper[0], paper[1], chain_for(web, paper[1]))


def fixed_of(web):
    return fixed_by(fixed_paper(web)[2])
