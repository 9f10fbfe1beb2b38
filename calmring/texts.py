"""Texts: lines of words, read into tuples."""

from calmring.errors import BadText

FIGURES = "0123456789"
MOST_FIGURES = 60
MOST_ENTRIES = 64
# By the first word: how many numbers stand behind it.
NUMBERS = {"pass": 2, "paint": 0, "far": 1, "grow": 1, "spoil": 2, "may": 0, "measure": 0}
# First words behind which any row of numbers stands.
ROWS = ("count", "lead", "state", "turn")
TABLE_WORDS = ("none", "one")


def read_number(word):
    figures = word[1:] if word.startswith("-") else word
    if not has_figures_alone(figures, MOST_FIGURES):
        raise BadText("a number is not written by 1 to 60 figures")
    if figures.startswith("0") and word != "0":
        raise BadText("a number has a nought ahead, or is -0")
    return int(word)


def read_text(text):
    return [read_line(line) for line in text.split("\n")]


def read_line(line):
    words = line.split(" ")
    first = words[0]
    rest = words[1:]
    if first in NUMBERS:
        refuse_count(rest, NUMBERS[first])
        return tuple([first] + read_numbers(rest))
    if first in ROWS:
        return (first, read_numbers(rest))
    if first == "net":
        return read_net(rest)
    if first == "table":
        return read_table(rest)
    if first == "look":
        return read_look(rest)
    raise BadText("a line begins with no known word")


def read_numbers(words):
    return [read_number(word) for word in words]


def read_net(words):
    if len(words) == 0:
        raise BadText("a net has no size")
    return ("net", read_number(words[0]), [read_way(word) for word in words[1:]])


def read_way(word):
    # A - ahead of either number makes a third part, so both are without one.
    ends = word.split("-")
    refuse_count(ends, 2)
    return (read_number(ends[0]), read_number(ends[1]))


def read_table(words):
    refuse_count(words, 5)
    if words[2] not in TABLE_WORDS:
        raise BadText("the word is another one than none and one")
    size = read_number(words[0])
    span = read_number(words[1])
    return ("table", size, span, words[2], read_entries(words[3]), read_entries(words[4]))


def read_entries(word):
    if not has_figures_alone(word, MOST_ENTRIES):
        raise BadText("a list of a table is not written by 1 to 64 figures")
    return [int(figure) for figure in word]


def read_look(words):
    if words != [] and words != ["many"]:
        raise BadText("behind look stands nothing, or many")
    return ("look", words == ["many"])


def has_figures_alone(word, most):
    return len(word) > 0 and len(word) <= most and all([sign in FIGURES for sign in word])


def refuse_count(words, count):
    if len(words) != count:
        raise BadText("there are too few or too many words or numbers")
