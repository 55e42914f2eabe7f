"""A desk, which is told rows: it keeps programs by names, and one Maker."""

from leastmaker.always import same
from leastmaker.errors import NoName, NoRow
from leastmaker.maker import Maker
from leastmaker.making import least_of
from leastmaker.meaning import value
from leastmaker.programs import KINDS, kind_of
from leastmaker.settled import settled
from leastmaker.stocks import weight
from leastmaker.texts import is_number, read, show

MOST_INPUTS = 3
MOST_LETTERS = 6
LETTERS = "abcdefghijklmnopqrstuvwxyz"
TRUTHS = {"yes": True, "no": False}


def say_head(desk, words):
    refuse_unless(2 <= len(words) <= MOST_INPUTS + 2 and words[-2] == ":")
    kinds, kind = tuple(words[:-2]), words[-1]
    refuse_unless(all([word in KINDS for word in (*kinds, kind)]))
    desk.maker = Maker((kinds, kind))
    desk.programs = {}
    return "open"


def say_keep(desk, words):
    refuse_unless(len(words) >= 2 and is_name(words[0]))
    program = read(" ".join(words[1:]))
    kind = kind_of(kinds_at(desk), program)
    desk.programs[words[0]] = program
    return kind


def say_show(desk, words):
    refuse_unless(are_names(words, 1))
    return show(kept_as(desk, words[0]))


def say_at(desk, words):
    refuse_unless(are_names(words[:1], 1))
    inputs = read_inputs(kinds_at(desk), words[1:])
    return thing_text(value(kept_as(desk, words[0]), inputs))


def say_weigh(desk, words):
    refuse_unless(are_names(words, 1))
    load = weight(kept_as(desk, words[0]))
    return "none" if load is None else str(load)


def say_same(desk, words):
    refuse_unless(are_names(words, 2))
    kinds = kinds_at(desk)
    one, other = [kept_as(desk, name) for name in words]
    refuse_unless(kind_of(kinds, one) == kind_of(kinds, other))
    word, paper = same(kinds, one, other)
    if word == "same":
        return word
    return " ".join([word, *[thing_text(thing) for thing in paper]])


def say_wish(desk, words):
    refuse_unless(len(words) >= 1)
    return str(desk.maker.wish(read(" ".join(words))))


def say_example(desk, words):
    refuse_unless(len(words) >= 2 and words[-2] == ":")
    inputs = read_inputs(kinds_at(desk), words[:-2])
    answer = read_thing(desk.maker.head[1], words[-1])
    return str(desk.maker.examples([(inputs, answer)])[0])


def say_back(desk, words):
    refuse_unless(len(words) == 1)
    number = read_thing("num", words[0])
    refuse_unless(number >= 0)
    desk.maker.back(number)
    return "gone"


def say_made(desk, words):
    refuse_unless(are_names(words, 1))
    told = desk.maker.made()
    if told[0] == "none":
        return "none"
    desk.programs[words[0]] = told[1]
    return f"made {weight(told[1])}"


def say_settled(desk, words):
    refuse_unless(len(words) == 0)
    return settled(desk.maker.head, desk.maker.whole())[0]


def say_least(desk, words):
    refuse_unless(are_names(words, 1))
    least = least_of(kinds_at(desk), kept_as(desk, words[0]))
    if least is None:
        return "none"
    desk.programs[words[0]] = least
    return f"least {weight(least)}"


ROWS = {
    "head": say_head,
    "keep": say_keep,
    "show": say_show,
    "at": say_at,
    "weigh": say_weigh,
    "same": say_same,
    "wish": say_wish,
    "example": say_example,
    "back": say_back,
    "made": say_made,
    "settled": say_settled,
    "least": say_least,
}


class Desk:
    """Programs by names and a Maker, at first for a num of one num."""

    def __init__(self):
        self.programs = {}
        self.maker = Maker((("num",), "num"))

    def say(self, row):
        """What the row is answered; else NoRow, NoName, NoText, NoProgram, Clash, NotKept."""
        words = row.split(" ")
        # A text behind may have any word, so a line feed is looked for ahead of all.
        refuse_unless("\n" not in row and words[0] in ROWS)
        answered = ROWS[words[0]]
        return answered(self, words[1:])


def refuse_unless(is_row):
    """NoRow, unless this is so."""
    if not is_row:
        raise NoRow()


def kinds_at(desk):
    """The kinds of the desk's inputs."""
    return desk.maker.head[0]


def kept_as(desk, name):
    """The program that is kept by this name, else NoName."""
    if name not in desk.programs:
        raise NoName(name)
    return desk.programs[name]


def is_name(word):
    """Whether the word is one to six small letters."""
    return 1 <= len(word) <= MOST_LETTERS and all([letter in LETTERS for letter in word])


def are_names(words, many):
    """Whether these are so many names."""
    return len(words) == many and all([is_name(word) for word in words])


def read_inputs(kinds, words):
    """The inputs that the words say, else NoRow."""
    refuse_unless(len(words) == len(kinds))
    return tuple([read_thing(kind, word) for kind, word in zip(kinds, words)])


def read_thing(kind, word):
    """The number or the truth, as the kind says, that the word says, else NoRow."""
    if kind == "truth":
        refuse_unless(word in TRUTHS)
        return TRUTHS[word]
    refuse_unless(is_number(word))
    return int(word)


def thing_text(thing):
    """The word that says a number or a truth."""
    if isinstance(thing, bool):
        return "yes" if thing else "no"
    return str(thing)
