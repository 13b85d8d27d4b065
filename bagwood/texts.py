"""Numbers, names and trees of bags as texts."""

from bagwood.errors import NoName, NoNumber, NoText

FIGURES = "0123456789"
LETTERS = "abcdefghijklmnopqrstuvwxyz"
MOST_FIGURES = 30
MOST_LETTERS = 6


def is_written(text, signs, most):
    return 1 <= len(text) <= most and all([sign in signs for sign in text])


def is_number(text):
    return is_written(text, FIGURES, MOST_FIGURES) and (text == "0" or text[0] != "0")


def is_name(text):
    return is_written(text, LETTERS, MOST_LETTERS)


def read_number(text):
    if not is_number(text):
        raise NoNumber("the text is no number")
    return int(text)


def read_bags(names, text):
    # The whole text is looked at for its form ahead of any name.
    rows = [read_row(row) for row in text.split("; ")]
    return [(up, read_places(names, words)) for up, words in rows]


def read_row(row):
    up, colon, rest = row.partition(":")
    is_up = up == "-" or is_number(up)
    # Each name has a blank ahead of it, so nothing stands ahead of the first blank.
    words = rest.split(" ")
    if not is_up or not colon or words[0] or not all([is_name(word) for word in words[1:]]):
        raise NoText("the text is no tree of bags")
    return (None if up == "-" else int(up), words[1:])


def read_places(names, words):
    places = []
    for word in words:
        if word not in names or names.index(word) in places:
            raise NoName("the name is none of the graph's, or stands twice in its bag")
        places.append(names.index(word))
    return sorted(places)


def show_bags(names, tree):
    return "; ".join([show_row(names, up, places) for up, places in tree])


def show_row(names, up, places):
    head = "-" if up is None else str(up)
    return " ".join([head + ":"] + [names[v] for v in places])
