"""The texts of programs: written and read."""

from leastmaker.errors import NoText
from leastmaker.programs import FORMS, front_of, knots, many_numbers, many_parts, taken

MOST_KNOTS = 60
MOST_FIGURES = 6
FIGURES = "0123456789"


def show(program):
    """The program's text."""
    words = []
    for knot in knots(program):
        words.extend([str(thing) for thing in front_of(knot)])
    return " ".join(words)


def read(text):
    """The program that has this text, else NoText."""
    words = text.split(" ")
    fronts = []
    at = 0
    due = 1
    while due > 0:
        if at == len(words) or len(fronts) == MOST_KNOTS or words[at] not in FORMS:
            raise NoText(at)
        front = front_at(words, at)
        fronts.append(front)
        at += len(front)
        due += many_parts(front[0]) - 1
    if at < len(words):
        raise NoText(at)
    return built(fronts)


def front_at(words, at):
    """The knot that begins with the word at this place, without its parts, else NoText."""
    word = words[at]
    if many_numbers(word) == 0:
        return (word,)
    if at + 1 == len(words) or not is_number(words[at + 1]):
        raise NoText(at + 1)
    number = int(words[at + 1])
    if word == "in" and number < 0:
        raise NoText(at + 1)
    return (word, number)


def is_number(word):
    """Whether the word is a number's one text; int would read more words than these."""
    if word == "0":
        return True
    figures = word.removeprefix("-")
    if len(figures) == 0 or len(figures) > MOST_FIGURES or figures.startswith("0"):
        return False
    return all([sign in FIGURES for sign in figures])


def built(fronts):
    """The program whose knots, without their parts, are these in text order."""
    ready = []
    for front in reversed(fronts):
        ready.append(front + taken(ready, many_parts(front[0])))
    return ready[0]
