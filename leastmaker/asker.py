"""An asker, who finds by asking what an unseen doer does."""

from leastmaker.census import FEW, census
from leastmaker.deeds import Deed
from leastmaker.errors import NoAnswer, NoDoer, NoQuestion
from leastmaker.programs import has_kind
from leastmaker.stocks import STOCK


class Asker:
    """Asks at points that part all programs of a stock, to some weight."""

    def __init__(self, head, *, stock=STOCK, most=FEW):
        kinds, kind = head
        self.points, shelf = census(kinds, stock=stock, most=most)
        self.kind = kind
        # The first one of all candidates that are the same everywhere, for each, as (row, program), in order.
        self.left = [(row, program) for load, own, row, program in shelf if own == kind]
        self.place = best_place(self.left, len(self.points))
        self.answers = []
        self.noted = []

    def question(self):
        """The inputs that it asks now, None where it asks nothing."""
        return None if self.place is None else self.points[self.place]

    def hear(self, answer):
        """Hears the answer at the inputs that it asks, else NoQuestion, NoAnswer, NoDoer."""
        turn = len(self.answers)
        with Deed(self.noted, ("ask", turn), ("heard", turn), ("refused", turn)):
            if self.place is None:
                raise NoQuestion()
            if not has_kind(self.kind, answer):
                raise NoAnswer(answer)
            inputs = self.points[self.place]
            left = [(row, program) for row, program in self.left if row[self.place] == answer]
            if len(left) == 0:
                raise NoDoer(inputs)
            self.answers.append((inputs, answer))
            self.left = left
            self.place = best_place(left, len(self.points))

    def told(self):
        """The first of its candidates, None without any."""
        return None if len(self.left) == 0 else self.left[0][1]

    def heard(self):
        """(inputs, answer) of all that it heard."""
        return list(self.answers)

    def log(self):
        """Both ends of each hearing."""
        return list(self.noted)

    def is_hearing(self):
        """Whether it is hearing an answer now."""
        return len(self.noted) > 0 and self.noted[-1][0] == "ask"

    def __len__(self):
        return len(self.answers)


def best_place(candidates, many):
    """At which of so many places of their rows the fewest candidates tell the same, None where all do at each."""
    best, fewest = None, len(candidates)
    for at in range(many):
        share = greatest_share(candidates, at)
        if share < fewest:
            best, fewest = at, share
    return best


def greatest_share(candidates, at):
    """How many of the candidates, at the most, tell the same at this place of their rows."""
    counts = {}
    for row, program in candidates:
        counts[row[at]] = counts.get(row[at], 0) + 1
    return max(list(counts.values()), default=0)
