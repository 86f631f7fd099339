"""The web of a text."""

from oldnews.checks import MOST_HOUSES, is_ascending, is_name
from oldnews.errors import BadText
from oldnews.tables import MOST_HEARD, contains
from oldnews.webs import Web


def read_web(text):
    """Returns the names and the web of the text as a pair. Raises BadText."""
    lines = [line.split(" ") for line in text.split("\n")]
    check_many(lines, read_size(lines[0]))
    names = read_names(lines)
    numbers = {name: house for house, name in enumerate(names)}
    rows = [read_table(line, lines[line - 1], numbers) for line in range(2, len(lines) + 1)]
    return tuple(names), Web(rows)


def check(right, line, word):
    """Raises BadText for the place if what stands there is not right."""
    if not right:
        raise BadText(line, word)


def word_at(words, place):
    """Returns the word at the place of a line; a missing word is like an empty one.

    An empty word is never right, and the words are read one after another, so
    the first missing word is found at its place, the number of words.
    """
    if place < len(words):
        return words[place]
    return ""


def read_size(words):
    """Returns the number of houses from line 1. Raises BadText."""
    check(words[0] == "web", 1, 0)
    figures = [str(count) for count in range(1, MOST_HOUSES + 1)]
    check(word_at(words, 1) in figures, 1, 1)
    check(len(words) == 2, 1, 2)
    return int(words[1])


def check_many(lines, size):
    """Raises BadText if there is not one line for each house behind line 1."""
    check(len(lines) > size, len(lines) + 1, 0)
    check(len(lines) == size + 1, size + 2, 0)


def read_names(lines):
    """Returns the list of the names of the houses. Raises BadText."""
    names = []
    for line in range(2, len(lines) + 1):
        name = lines[line - 1][0]
        check(is_name(name) and name not in names, line, 0)
        names.append(name)
    return names


def read_table(line, words, numbers):
    """Returns the table row of a line, where `numbers` has the house of each name.

    Raises BadText.
    """
    kind = word_at(words, 1)
    check(kind in ("rows", "terms"), line, 1)
    hearings = read_hearings(line, words, numbers)
    heard = [house for house, sign in hearings]
    # The words are the name, the kind, the heard houses and the colon.
    place = len(heard) + 3
    if kind == "rows":
        return (kind, heard, read_bits(line, words, place, 1 << len(heard)))
    return (kind, hearings, read_terms(line, words, place, heard, numbers))


def read_hearings(line, words, numbers):
    """Returns the list of the hearings of a line of either kind. Raises BadText."""
    hearings = []
    last = -1
    place = 2
    while word_at(words, place) != ":":
        house, sign = read_hearing(words[1], word_at(words, place), numbers)
        check(len(hearings) < MOST_HEARD and house > last, line, place)
        hearings.append((house, sign))
        last = house
        place += 1
    return hearings


def read_hearing(kind, word, numbers):
    """Returns the house and the sign of a word; the house is -1 if it is not right."""
    if kind == "terms" and word.startswith("!"):
        return numbers.get(word[1:], -1), -1
    return numbers.get(word, -1), 1


def read_bits(line, words, place, many):
    """Returns the list of so many bits, the last word of the line. Raises BadText."""
    word = word_at(words, place)
    check(len(word) == many and all(figure in "01" for figure in word), line, place)
    check(len(words) == place + 1, line, place + 1)
    return [int(figure) for figure in word]


def read_terms(line, words, first, heard, numbers):
    """Returns the list of the terms, the words of the line from `first` on. Raises BadText."""
    terms = []
    for place in range(first, len(words)):
        term = read_term(words[place], numbers)
        check(is_ascending(term) and all(house in heard for house in term), line, place)
        check(len(terms) == 0 or terms[-1] < term, line, place)
        check(not any(contains(term, other) or contains(other, term) for other in terms),
              line, place)
        terms.append(term)
    return terms


def read_term(word, numbers):
    """Returns the houses of the word of a term, with -1 for what is no name."""
    if word == "*":
        return ()
    return tuple([numbers.get(name, -1) for name in word.split("+")])
