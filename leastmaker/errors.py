"""The refusals, each with the things that it was made of, as they are, in fields of their names."""


class MakeError(ValueError):
    """What was handed in is not of the form or the kind due."""


class NoHead(MakeError):
    """No head: word is what is amiss, at the number of the input, the answer's behind them."""

    def __init__(self, word, at):
        self.word = word
        self.at = at


class NoProgram(MakeError):
    """No program: word is what is amiss, at the number of the knot."""

    def __init__(self, word, at):
        self.word = word
        self.at = at


class NoText(MakeError):
    """No program's text: at is the number of the word."""

    def __init__(self, at):
        self.at = at


class NoStock(MakeError):
    """No stock: word is what is amiss, at the number of the thing in its tuple."""

    def __init__(self, word, at):
        self.word = word
        self.at = at


class NoAnswer(MakeError):
    """The answer hasn't the kind due."""

    def __init__(self, answer):
        self.answer = answer


class NoInputs(MakeError):
    """The inputs or the answer of an example are none of the head's: at is its number."""

    def __init__(self, at):
        self.at = at


class Clash(MakeError):
    """The example at this place has the inputs, but not the answer, of the one with this number."""

    def __init__(self, at, number):
        self.at = at
        self.number = number


class NoRow(MakeError):
    """None of the rows that a desk is told."""


class NoQuestion(LookupError):
    """An answer was told where nothing is asked."""


class NoDoer(LookupError):
    """No candidate tells the answer that was heard at these inputs."""

    def __init__(self, inputs):
        self.inputs = inputs


class NotKept(IndexError):
    """Nothing is kept under this number."""

    def __init__(self, number):
        self.number = number


class NoName(KeyError):
    """No program is kept by this name."""

    def __init__(self, name):
        self.name = name
