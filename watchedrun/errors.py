"""The refusals, each with the fields that tell what was refused.

A field that may hold what was handed in holds a copy of it, so that nothing done to a list later changes
what was told.
"""

from watchedrun.basics import own_copy


class NoProgram(ValueError):
    """What was handed in as a program is none."""


class NoPart(KeyError):
    """There is no part of that name; the field name is what was handed in as one."""

    def __init__(self, name):
        KeyError.__init__(self, "there is no part of that name")
        self.name = own_copy(name)


class NoRow(IndexError):
    """There is no row of that number; the field row is what was handed in as one."""

    def __init__(self, row):
        IndexError.__init__(self, "there is no row of that number")
        self.row = own_copy(row)


class TooLong(OverflowError):
    """A part made of a tree would have too many rows; the field many is how many."""

    def __init__(self, many):
        OverflowError.__init__(self, f"a part would have {many} rows")
        self.many = many


class Unsound(ValueError):
    """A part isn't sound; the fields are the part's name and a paper of it."""

    def __init__(self, part, paper):
        ValueError.__init__(self, f"the part {part} is not sound")
        self.part = part
        self.paper = own_copy(paper)


class NoNumbers(ValueError):
    """A part isn't begun with as many worths as it has names; the field many is how many names."""

    def __init__(self, many):
        ValueError.__init__(self, f"the part takes {many} worths")
        self.many = many


class NoHook(LookupError):
    """What was handed in as a hook, or as the number of one, is none."""


class TooMany(OverflowError):
    """There are as many hooks as there may be."""


class Busy(RuntimeError):
    """The watch can't do this now."""


class NoText(ValueError):
    """A text isn't that of a program; the field at is the number of the row that can't stand."""

    def __init__(self, at):
        ValueError.__init__(self, f"row {at} of the text can't stand")
        self.at = at


class NoWord(ValueError):
    """The desk can't read what it was told."""


class NoMark(KeyError):
    """There is no mark of that name; the field name is what was told as one."""

    def __init__(self, name):
        KeyError.__init__(self, "there is no mark of that name")
        self.name = own_copy(name)
