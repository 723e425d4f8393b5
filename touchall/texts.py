"""Webs as texts: a row for each place, then a row for each tie."""

from touchall.errors import NoText
from touchall.webs import MOST_PLACES, MOST_TIES, look_at_web, place_stands, tie_stands

# The greatest number that a web can have, 10 ** 12, has so many; longer ones are not worth reckoning.
MOST_FIGURES = 13


def written_web(web):
    look_at_web(web)
    places = [f"place {place} {price}" for place, price in web[0]]
    ties = [f"tie {one} {other}" for one, other in web[1]]
    return "\n".join(places + ties)


def is_written_number(word):
    if word == "" or not all([sign in "0123456789" for sign in word]):
        return False
    return word == "0" or not word.startswith("0")


def pair_of(words):
    for word in words:
        if not is_written_number(word) or len(word) > MOST_FIGURES:
            return None
    return (int(words[0]), int(words[1])) if len(words) == 2 else None


def place_is_next(pair, places):
    last = places[-1][0] if places else -1
    spent = sum([price for place, price in places])
    return len(places) < MOST_PLACES and place_stands(pair, last, spent)


def tie_is_next(pair, ties, places):
    last = ties[-1] if ties else (-1, -1)
    return len(ties) < MOST_TIES and tie_stands(pair, last, dict(places))


def put_row(row, places, ties):
    words = row.split(" ")
    pair = pair_of(words[1:])
    if words[0] == "place" and not ties and place_is_next(pair, places):
        places.append(pair)
    elif words[0] == "tie" and tie_is_next(pair, ties, places):
        ties.append(pair)
    else:
        return False
    return True


def read_web(text):
    if not isinstance(text, str):
        raise NoText(0)
    places = []
    ties = []
    rows = text.split("\n") if text else []
    for number, row in enumerate(rows):
        if not put_row(row, places, ties):
            raise NoText(number)
    return (places, ties)
