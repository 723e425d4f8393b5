"""What kind a thing is, asked of things of any kind."""


def is_whole(thing):
    return isinstance(thing, int) and not isinstance(thing, bool)


def is_tuple_of(thing, many):
    return isinstance(thing, tuple) and len(thing) == many


def is_pair_of_wholes(thing):
    return is_tuple_of(thing, 2) and is_whole(thing[0]) and is_whole(thing[1])


def is_list_up_to(thing, most):
    return isinstance(thing, list) and len(thing) <= most


def marked(places):
    return dict([(place, True) for place in places])
