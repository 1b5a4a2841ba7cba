"""Moments of a run: what comes up in it, where, and with which worth."""

KINDS = ("call", "row", "back", "fault", "caught")


class Moment:
    """One moment: its kind, how deep its frame stands, the part's name, the row, and a worth or None."""

    def __init__(self, kind, depth, part, row, worth=None):
        self.kind = kind
        self.depth = depth
        self.part = part
        self.row = row
        self.worth = worth

    def __eq__(self, other):
        return (isinstance(other, Moment) and self.kind == other.kind and self.depth == other.depth
                and self.part == other.part and self.row == other.row and self.worth == other.worth)

    def __str__(self):
        if self.worth is None:
            return f"{self.depth} {self.kind} {self.part}:{self.row}"
        return f"{self.depth} {self.kind} {self.part}:{self.row} = {self.worth}"

    def __repr__(self):
        return f"Moment({self.kind!r}, {self.depth}, {self.part!r}, {self.row}, {self.worth})"
