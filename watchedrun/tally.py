"""Tallies: counts of moments."""


class Tally:
    """Counts of the moments that its ear was told."""

    def __init__(self):
        self.rows_done = {}
        self.parts_called = {}
        self.faults_up = {}
        self.last_called = {}
        self.depths = []

    def ear(self):
        """A def that takes a moment and counts it here."""
        def hear(moment):
            self.count_moment(moment)
        return hear

    def rows(self):
        """The sorted list of tuples (part, row, many) of the rows that were done."""
        return sorted([(part, row, many) for (part, row), many in self.rows_done.items()])

    def calls(self):
        """The sorted list of tuples (caller, called, many), the caller "" where there is none."""
        return sorted([(caller, part, many) for (caller, part), many in self.parts_called.items()])

    def faults(self):
        """The sorted list of tuples (number, many) of the faults that came up."""
        return sorted([(number, many) for number, many in self.faults_up.items()])

    def deepest(self):
        """The greatest depth, 0 where no moment was told."""
        return max(self.depths, default=0)

    def __eq__(self, other):
        return (isinstance(other, Tally) and self.rows() == other.rows() and self.calls() == other.calls()
                and self.faults() == other.faults() and self.deepest() == other.deepest()
                and len(self.depths) == len(other.depths))

    def __len__(self):
        return len(self.depths)

    def again(self):
        """Another tally with the same counts, which goes on by itself."""
        twin = Tally()
        twin.rows_done = {key: self.rows_done[key] for key in self.rows_done}
        twin.parts_called = {key: self.parts_called[key] for key in self.parts_called}
        twin.faults_up = {key: self.faults_up[key] for key in self.faults_up}
        twin.last_called = {key: self.last_called[key] for key in self.last_called}
        twin.depths = list(self.depths)
        return twin

    def count_moment(self, moment):
        """Count one moment."""
        self.depths.append(moment.depth)
        if moment.kind == "row":
            add_one(self.rows_done, (moment.part, moment.row))
        elif moment.kind == "fault":
            add_one(self.faults_up, moment.worth)
        elif moment.kind == "call":
            caller = self.last_called.get(moment.depth - 1, "")
            add_one(self.parts_called, (caller, moment.part))
            self.last_called[moment.depth] = moment.part


def add_one(counts, key):
    """Count one more by that key."""
    counts[key] = counts.get(key, 0) + 1


def tallied(moments):
    """A tally that was told these moments."""
    tally = Tally()
    for moment in moments:
        tally.count_moment(moment)
    return tally
