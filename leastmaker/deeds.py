"""Deeds that write both their ends into a log."""


class Deed:
    """Writes start when it begins and, when it ends, done or, where something was raised, refused."""

    def __init__(self, noted, start, done, refused):
        self.noted = noted
        self.start = start
        self.done = done
        self.refused = refused

    def __enter__(self):
        self.noted.append(self.start)

    def __exit__(self, kind, value, trace):
        if kind is None:
            self.noted.append(self.done)
        else:
            self.noted.append(self.refused)
