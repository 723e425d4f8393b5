"""The rules of steps that take places away and tie nothing anew: lone, near, leaf, over, twins."""


def cost_near(prices, nears, v):
    return sum([prices[place] for place in nears[v]])


def near_fits(prices, nears, v):
    return len(nears[v]) > 0 and cost_near(prices, nears, v) <= prices[v]


def leaf_fits(prices, nears, v):
    return len(nears[v]) == 1 and prices[nears[v][0]] > prices[v]


def over_fits(prices, nears, u, v):
    if v not in nears[u] or prices[v] > prices[u]:
        return False
    return all([place == v or place in nears[v] for place in nears[u]])


# What is tied to v isn't near both, as no place is near itself: so the same places near both are enough.
def twins_fit(nears, u, v):
    return u != v and len(nears[u]) > 0 and nears[u] == nears[v]


def rule_fits(prices, nears, step):
    word = step[0]
    if len(step) == 2:
        if word == "lone":
            return len(nears[step[1]]) == 0
        if word == "near":
            return near_fits(prices, nears, step[1])
        return word == "leaf" and leaf_fits(prices, nears, step[1])
    if len(step) == 3:
        if word == "over":
            return over_fits(prices, nears, step[1], step[2])
        return word == "twins" and twins_fit(nears, step[1], step[2])
    return False


# Told are the places that go, the new prices, and what is added.
def rule_change(prices, nears, step):
    word = step[0]
    v = step[-1]
    if word == "near":
        return (nears[v] + [v], {}, cost_near(prices, nears, v))
    if word == "leaf":
        u = nears[v][0]
        return ([v], {u: prices[u] - prices[v]}, prices[v])
    if word == "over":
        return ([v], {}, prices[v])
    if word == "twins":
        return ([v], {step[1]: prices[step[1]] + prices[v]}, 0)
    return ([v], {}, 0)


def rule_back(nears, step, some):
    word = step[0]
    v = step[-1]
    if word == "near":
        return some + nears[v]
    if word == "over":
        return some + [v]
    if word == "leaf" and nears[v][0] not in some:
        return some + [v]
    if word == "twins" and step[1] in some:
        return some + [v]
    return some


def rule_forth(nears, step, some):
    word = step[0]
    v = step[-1]
    gone = [v]
    if word == "near":
        gone = nears[v] + [v]
    if word in ("over", "twins") and v not in some:
        gone = [step[1], v]
    return [place for place in some if place not in gone]
