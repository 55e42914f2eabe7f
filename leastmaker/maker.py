"""A maker, who keeps wishes and examples over many calls, and makes the first program that meets them all."""

from leastmaker.deeds import Deed
from leastmaker.errors import Clash, NoInputs, NoProgram, NotKept
from leastmaker.making import made_from
from leastmaker.programs import has_kind, kind_of
from leastmaker.shelves import MOST
from leastmaker.stocks import STOCK
from leastmaker.wishes import all_of, wish_of


class Maker:
    """Keeps things by their numbers: ("wish", program) or ("example", inputs, answer)."""

    def __init__(self, head, *, stock=STOCK, most=MOST):
        self.head = head
        self.stock = stock
        self.most = most
        self.things = {}
        # The number of the next thing.
        self.onward = 0
        self.noted = []

    def wish(self, program):
        """Keeps the wish: its number; else NoProgram."""
        with self.deed("wish"):
            refuse_wish(self.head, program)
            return self.numbered([("wish", program)])[0]

    def examples(self, some):
        """Keeps the examples: their numbers; else NoInputs, Clash, and keeps none of them."""
        with self.deed("examples"):
            fresh = [("example", inputs, answer) for inputs, answer in some]
            refuse_examples(self.head, fresh)
            refuse_clashes(list(self.things.items()), fresh, self.onward)
            return self.numbered(fresh)

    def back(self, number):
        """Keeps the thing with this number no longer, else NotKept."""
        with self.deed("back"):
            if number not in self.things:
                raise NotKept(number)
            del self.things[number]

    def kept(self):
        """All that it keeps, by numbers, in their order."""
        return dict(self.things)

    def whole(self):
        """A wish that a program meets just where it meets all that is kept."""
        with self.deed("whole"):
            return wish_of_all(self.head, self.kept())

    def made(self):
        """What is made of the whole."""
        with self.deed("made"):
            whole = wish_of_all(self.head, self.kept())
            points = tuple(answers_by_inputs(self.kept()))
            return made_from(self.head, whole, points, self.stock, self.most)

    def log(self):
        """Both ends of each deed."""
        return list(self.noted)

    def is_busy(self):
        """Whether a deed is done now."""
        return len(self.noted) > 0 and self.noted[-1][0] == "in"

    def __len__(self):
        return len(self.things)

    def __eq__(self, other):
        return (isinstance(other, Maker) and self.head == other.head and self.stock == other.stock
                and self.most == other.most and self.things == other.things)

    def deed(self, word):
        """A deed with this name, to write into the log."""
        return Deed(self.noted, ("in", word), ("out", word), ("out", word))

    def numbered(self, fresh):
        """Keeps these things: their numbers."""
        numbers = list(range(self.onward, self.onward + len(fresh)))
        for number, thing in zip(numbers, fresh):
            self.things[number] = thing
        self.onward += len(fresh)
        return numbers


def refuse_wish(head, program):
    """NoProgram of what is no wish by the head."""
    kinds, kind = head
    if kind_of((*kinds, kind), program) != "truth":
        raise NoProgram("kind", 0)


def refuse_examples(head, fresh):
    """NoInputs at the first example that is none of the head's."""
    for at, (word, inputs, answer) in enumerate(fresh):
        if not are_inputs(head[0], inputs) or not has_kind(head[1], answer):
            raise NoInputs(at)


def are_inputs(kinds, inputs):
    """Whether these are inputs of these kinds."""
    if not isinstance(inputs, tuple) or len(inputs) != len(kinds):
        return False
    return all([has_kind(kind, thing) for kind, thing in zip(kinds, inputs)])


def refuse_clashes(kept, fresh, onward):
    """Clash at the first fresh example that has the inputs, but not the answer, of one that is kept or ahead of it."""
    ahead = [(number, thing) for number, thing in kept if thing[0] == "example"]
    for at, thing in enumerate(fresh):
        for number, other in ahead:
            if other[1] == thing[1] and other[2] != thing[2]:
                raise Clash(at, number)
        ahead.append((onward + at, thing))


def answers_by_inputs(kept):
    """The answers of all kept examples by their inputs, of which none has two."""
    return {thing[1]: thing[2] for thing in kept.values() if thing[0] == "example"}


def wish_of_all(head, kept):
    """A wish that a program meets just where it meets all that is kept."""
    wishes = [thing[1] for thing in kept.values() if thing[0] == "wish"]
    answers = answers_by_inputs(kept)
    if len(answers) > 0:
        wishes.append(wish_of(head, list(answers.items())))
    return all_of(wishes)
