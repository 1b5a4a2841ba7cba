"""What holds over the whole: points 2 and 3."""

import random
import unittest

from tests.samples import random_program, random_tree
from watchedrun.errors import TooLong
from watchedrun.meaning import meant
from watchedrun.moments import KINDS
from watchedrun.plain import walked
from watchedrun.tally import Tally, tallied
from watchedrun.trees import made
from watchedrun.watch import Watch

QUIET = (("put", 0), ("back",))
CALLING = (("get", "k"), ("set", "a"), ("put", 3), ("try", 6), ("call", "nothing"), ("throw",), ("away",), ("back",))


def quietly_watched(source):
    """A program whose hooks come to their ends, say nothing, change nothing and raise no fault."""
    program = random_program(source)[:3]
    return program + (("quiet", ("k", "r", "w"), QUIET), ("calling", ("k", "r", "w"), CALLING), ("nothing", (), QUIET))


def quiet_hooks(source, program):
    hooks = []
    for _ in range(source.randrange(1, 4)):
        kinds = tuple(source.sample(KINDS, source.randrange(1, 6)))
        where = source.choice((None, None, (source.choice(program)[0], 0, source.randrange(60))))
        hooks.append((source.choice(("quiet", "calling")), kinds, where))
    return tuple(hooks)


class WholeTest(unittest.TestCase):

    def test_watched_by_hooks_that_change_nothing_it_is_the_plain_run(self):
        source = random.Random(60)
        inner = 0
        for _ in range(80):
            program = quietly_watched(source)
            hooks = quiet_hooks(source, program)
            trace = walked(program, "main", (3, 0), most=15)
            watch, heard = Watch(program, hooks=hooks), []
            tally = Tally()
            watch.listen(lambda moment: heard.append(moment))
            watch.listen(tally.ear())
            watch.begin("main", (3, 0))
            while watch.end() is None and len([one for one in heard if one.kind == "row"]) < len(trace) + 1:
                inner += watch.run(most=5)
            told = trace.moments()
            self.assertEqual(heard[:len(told)], told)
            if trace.end() is not None:
                self.assertEqual((watch.said(), watch.end(), heard), (trace.said(), trace.end(), told))
                self.assertEqual(tally, tallied(told))
        self.assertGreater(inner, 5000)

    def test_trees_made_to_rows_say_and_end_as_they_mean(self):
        source = random.Random(61)
        ends = set()
        for _ in range(400):
            tree = random_tree(source, 2)
            try:
                program = made(tree)
            except TooLong:
                continue
            numbers = (source.randrange(-2, 5), source.randrange(-2, 5))
            said, end = meant(tree, "main", numbers)
            ends.add(end[0])
            if end == ("long",):
                continue
            trace = walked(program, "main", numbers, most=3000)
            self.assertEqual((tuple(trace.said()), trace.end()), (said, end))
            watch = Watch(program)
            watch.begin("main", numbers)
            watch.run(most=3000)
            self.assertEqual((tuple(watch.said()), watch.end()), (said, end))
        self.assertEqual(ends, {"back", "fault", "long"})


if __name__ == "__main__":
    unittest.main()
