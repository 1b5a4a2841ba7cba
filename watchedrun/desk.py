"""A desk: a watch that is kept and told what to do in texts."""

from watchedrun.basics import is_name
from watchedrun.errors import NoMark, NoWord
from watchedrun.figures import number_by_tens
from watchedrun.programs import place_of
from watchedrun.standings import agree
from watchedrun.states import are_kinds
from watchedrun.tally import Tally
from watchedrun.texts import read_program, show_program
from watchedrun.watch import Watch

PROGRAM_LINE = "program\n"
FIRST_PROGRAM = (("main", (), (("put", 0), ("back",))),)
MOST_MANY = 500

# What stands behind each first word, in one way or in another one; begin isn't here, as any number of worths may
# stand behind its part.
SHAPES = {
    "hook": (("part", "kinds"), ("part", "kinds", "part", "number", "number")),
    "unhook": (("number",),),
    "run": (("many",),),
    "mark": (("mark",),),
    "back": (("kept",),),
    "said": ((),),
    "end": ((),),
    "at": ((),),
    "pile": ((),),
    "agree": (("part", "number", "number"),),
    "count": ((),),
    "show": ((),),
}


def shape_of(words):
    """What each word behind the first one is to be."""
    if words[0] == "begin" and len(words) > 1:
        return ("part", *["worth" for word in words[2:]])
    for shape in SHAPES.get(words[0], ()):
        if len(shape) == len(words) - 1:
            return shape
    raise NoWord("there is no such row")


def meaning_of(sort, word):
    """What the word stands for, where it is to be of that sort."""
    if sort == "part":
        return word
    if sort == "kinds":
        return read_kinds(word)
    if sort in ("mark", "kept"):
        if not is_name(word):
            raise NoWord("a mark has a name")
        return word
    number = number_by_tens(word)
    if number is None or (number < 0 and sort != "worth") or (number > MOST_MANY and sort == "many"):
        raise NoWord("this is no such number")
    return number


def read_kinds(word):
    """The kinds that the word tells, with commas between."""
    kinds = tuple(word.split(","))
    if not are_kinds(kinds):
        raise NoWord("these are no unlike kinds")
    return kinds


def with_blanks(texts):
    """The texts with blanks between, a dash where there is none."""
    return " ".join(texts) if texts else "-"


class Desk:
    """A watch of the program that is kept, the tally of its run, and marks: states and tallies by names."""

    def __init__(self):
        self.take_program(FIRST_PROGRAM)

    def say(self, text):
        """Do what the text tells: the answer."""
        if not isinstance(text, str):
            raise NoWord("this is no text")
        if text.startswith(PROGRAM_LINE):
            self.take_program(read_program(text.removeprefix(PROGRAM_LINE)))
            return "ok"
        if "\n" in text:
            raise NoWord("no line end is due here")
        words = text.split(" ")
        shape = shape_of(words)
        told = [meaning_of(sort, word) for sort, word in zip(shape, words[1:])]
        self.check_names(shape, told)
        return self.answer(words[0], told)

    def take_program(self, program):
        """Keep a program in the place of the elder one, without hooks, marks and a run."""
        watch = Watch(program)
        watch.listen(lambda moment: self.count_row(moment), kinds=("row",))
        self.program = program
        self.watch = watch
        self.tally = Tally()
        self.marks = {}

    def count_row(self, moment):
        """Count a row of the run."""
        self.tally.count_moment(moment)

    def check_names(self, shape, told):
        """Refuse names by which there is no part, or no mark."""
        for sort, name in zip(shape, told):
            if sort == "part":
                place_of(self.program, name)
            if sort == "kept" and name not in self.marks:
                raise NoMark(name)

    def answer(self, word, told):
        """The answer to a row with that first word, and with what its other words stand for."""
        if word == "hook":
            return self.add_hook(told[0], told[1], tuple(told[2:]))
        if word == "unhook":
            self.watch.unhook(told[0])
            self.marks = {}
            return "ok"
        if word == "begin":
            self.watch.begin(told[0], told[1:])
            self.tally = Tally()
            return "ok"
        if word == "run":
            return str(self.watch.run(most=told[0]))
        if word == "mark":
            self.marks[told[0]] = (self.watch.state(), self.tally.again())
            return "ok"
        if word == "back":
            state, tally = self.marks[told[0]]
            self.watch.put(state)
            self.tally = tally.again()
            return "ok"
        if word == "agree":
            return "yes" if agree(self.program, told[0], told[1], told[2]) else "no"
        if word == "show":
            return show_program(self.program)
        return self.told_of_run(word)

    def add_hook(self, name, kinds, where):
        """Tell the watch a hook, whose where is empty where none was told: its number."""
        number = self.watch.hook((name, kinds, where if where else None))
        self.marks = {}
        return str(number)

    def told_of_run(self, word):
        """What is told of the run by said, end, at, pile or count."""
        frames, said, end = self.watch.state()
        if word == "said":
            return with_blanks([str(worth) for worth in said])
        if word == "end":
            return told_end(frames, end)
        if word == "at":
            return with_blanks([f"{self.program[frame[0]][0]}:{frame[1]}" for frame in frames])
        if word == "pile":
            return with_blanks([str(worth) for worth in frames[-1][2]] if frames else [])
        return with_blanks([f"{part}:{row}:{many}" for part, row, many in self.tally.rows()])


def told_end(frames, end):
    """The end as it is told, also where there is none yet."""
    if end is not None:
        return f"{end[0]} {end[1]}"
    return "going" if frames else "none"
