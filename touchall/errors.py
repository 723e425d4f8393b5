"""The refusals, all under TouchError, none under another one."""


def own(thing):
    # An error that kept the very list would turn with what is done to that list later.
    return list(thing) if isinstance(thing, list) else thing


class TouchError(ValueError):
    pass


class NoWeb(TouchError):
    def __init__(self, part, number):
        TouchError.__init__(self, part, number)
        self.part = part
        self.number = number


class NoPlace(TouchError):
    def __init__(self, place):
        TouchError.__init__(self, place)
        self.place = place


class NoRows(TouchError):
    def __init__(self, number):
        TouchError.__init__(self, number)
        self.number = number


class Overpaid(TouchError):
    def __init__(self, place):
        TouchError.__init__(self, place)
        self.place = place


class NoStep(TouchError):
    def __init__(self, at):
        TouchError.__init__(self, at)
        self.at = at


class NoTree(TouchError):
    def __init__(self, way):
        TouchError.__init__(self, own(way))
        self.way = own(way)


class NotTwo(TouchError):
    def __init__(self, ring):
        TouchError.__init__(self, own(ring))
        self.ring = own(ring)


class NotForest(TouchError):
    def __init__(self, ring):
        TouchError.__init__(self, own(ring))
        self.ring = own(ring)


class TooWide(TouchError):
    def __init__(self, place):
        TouchError.__init__(self, place)
        self.place = place


class NoText(TouchError):
    def __init__(self, row):
        TouchError.__init__(self, row)
        self.row = row


class NoJoin(TouchError):
    pass


class NoSet(TouchError):
    pass


class NoCalls(TouchError):
    pass


class TooMany(TouchError):
    pass


class NoDeed(TouchError):
    pass


class Bare(TouchError):
    pass


class NoSay(TouchError):
    pass


class NoName(TouchError):
    pass
