"""Papers, told and looked at: point 24."""

import copy
import random
import unittest

from tests.reference import all_standings, onward, paper_holds
from tests.samples import any_things, places, put_otherwise, random_hooks, random_program, random_rows, shown, very_deep
from watchedrun.changing import changed
from watchedrun.errors import NoHook, NoNumbers, NoPart, NoProgram, NoRow, Unsound
from watchedrun.looker import holds
from watchedrun.papers import part_paper, rows_paper, run_paper
from watchedrun.standings import agree, is_sound, standings
from watchedrun.states import begun

END = (("put", 0), ("back",))
PROGRAM = (
    ("main", ("n",), (("get", "n"), ("if", 5), ("put", 1), ("back",), ("away",), ("put", 7), ("try", 10), ("put", 2),
                      ("done",), ("back",),
                      ("add",), ("throw",), ("go", 13), ("go", 12))),
    ("lacking", (), (("put", 1), ("if", 0), ("add",))),
    ("falling", (), (("put", 1), ("if", 3), ("go", 0), ("put", 2))),
    ("twofold", (), (("put", 1), ("go", 0))),
    ("guarded", (), (("try", 3), ("done",), ("done",), ("back",))),
    ("watch", ("k", "r", "w"), END),
)
SOUND = (PROGRAM[0], ("ring", (), (("put", 1), ("put", 2), ("away",), ("go", 1))), PROGRAM[5])
RING = (("main", (), (("put", 3), ("say",), ("go", 0))), ("watch", ("k", "r", "w"), END))
UNSOUND = (("main", (), END), ("wrong", ("a",), (("add",),)), ("worse", (), (("away",),)),
           ("watch", ("k", "r", "w"), END))
HOOK = ("watch", ("row",), None)


def otherwise(thing, program):
    """Other things for one that stands within a paper."""
    told = [None, True, False, 0, 1, -1, "", "main", [], (), [0], (0,), ((), (), None)]
    if isinstance(thing, int):
        told += [thing + 1, thing - 1, bool(thing), str(thing), (thing,), [thing], 10 ** 39]
    if isinstance(thing, str):
        told += [part[0] for part in program] + ["lacks", "falls", "two", "sound", "agree", "apart", "unmet", "run",
                                                 "call", "row", "back", thing + "x", thing[:-1]]
    if isinstance(thing, (tuple, list)):
        kind = type(thing)
        told += [list(thing), tuple(thing), thing[:-1], thing[1:], thing + thing[-1:], thing + kind([None]),
                 thing + kind([0]), thing[::-1], kind(), [thing]]
    return told


class PaperTest(unittest.TestCase):

    def holds(self, program, paper, due=True):
        told = holds(program, paper)
        if told is not due or paper_holds(program, paper) is not due:
            self.fail((shown(program), shown(paper), told))

    def check_otherwise(self, program, paper, source=None, many=None):
        """With one thing otherwise at every place, it holds just where it still does."""
        spots = list(places(paper))
        if many is not None and len(spots) > many:
            spots = source.sample(spots, many)
        still = 0
        for path, inner in spots:
            for new in otherwise(inner, program):
                thing = put_otherwise(paper, path, new)
                due = paper_holds(program, thing)
                still += due
                if holds(program, thing) is not due:
                    self.fail((shown(program), shown(thing), due))
        return still


class PartPaperTest(PaperTest):

    def test_of_parts_that_are_not_sound(self):
        for part, paper in (
            ("lacking", ("lacks", "lacking", [0, 1, 2])), ("falling", ("falls", "falling", [0, 1, 3])),
            ("twofold", ("two", "twofold", [0], [0, 1, 0])), ("guarded", ("lacks", "guarded", [0, 1, 2])),
        ):
            self.assertEqual(part_paper(PROGRAM, part), paper)
            self.holds(PROGRAM, paper)
            self.check_otherwise(PROGRAM, paper)

    def test_of_a_sound_part(self):
        program = (("main", ("n",), (("get", "n"), ("if", 3), ("go", 0), ("put", 1), ("back",), ("away",))),)
        paper = part_paper(program, "main")
        self.assertEqual(paper, ("sound", "main", [(0, ()), (1, ()), (0, ()), (0, ()), (1, ()), None],
                                 [[0], [0, 1], [0, 1, 2], [0, 1, 3], [0, 1, 3, 4], None]))
        self.holds(program, paper)
        self.assertGreater(self.check_otherwise(program, paper), 0)
        for name in ("main", "watch", "ring"):
            paper = part_paper(SOUND, name)
            self.holds(SOUND, paper)
            self.check_otherwise(SOUND, paper)
            self.assertEqual(paper[2], standings(SOUND, name))

    def test_every_one_that_is_told_is_let_by(self):
        source = random.Random(70)
        words = {}
        for _ in range(60):
            program = random_program(source)
            if source.randrange(2):
                rows = [list(part[2]) for part in program]
                chosen = source.choice(rows)
                chosen[source.choice((source.randrange(len(chosen)), -1))] = source.choice((("add",), ("done",),
                                                                                            ("away",), ("put", 1),
                                                                                            ("go", 0), ("twin",),
                                                                                            ("back",)))
                program = tuple((name, names, tuple(new)) for (name, names, _), new in zip(program, rows))
            for name, _, _ in program:
                paper = part_paper(program, name)
                words[paper[0]] = words.get(paper[0], 0) + 1
                self.assertEqual(paper[0] == "sound", all_standings(program, name) is not None)
                self.holds(program, paper)
                self.check_otherwise(program, paper, source, 2)
        self.assertEqual(sorted(words), ["falls", "lacks", "sound", "two"])

    def test_none_of_the_contrary(self):
        source = random.Random(71)
        for _ in range(100):
            rows = tuple(random_rows(source, {"main": 0}, True))[:10]
            rows = tuple(row if row[0] not in ("go", "if", "try") or row[1] < len(rows) else ("put", 0) for row in rows)
            program = (("main", (), rows),)
            if any(row[0] == "try" and row[1] == at + 1 for at, row in enumerate(rows)):
                continue
            known = all_standings(program, "main")
            for _ in range(30):
                walk = self.random_walk(source, program, source.randrange(1, 12))
                other = self.random_walk(source, program, source.randrange(1, 12))
                for paper in (("lacks", "main", walk), ("falls", "main", walk), ("two", "main", walk, other),
                              ("agree", "main", walk, other),
                              ("apart", "main", walk, other)):
                    self.holds(program, paper, paper_holds(program, paper))
                    if paper[0] in ("lacks", "falls", "two") and known is not None:
                        self.holds(program, paper, False)
                    if paper[0] in ("agree", "apart") and known is None:
                        self.holds(program, paper, False)

    def random_walk(self, source, program, many):
        walk, standing = [0], (0, ())
        while len(walk) < many:
            led = onward(program, "main", walk[-1], standing)
            led = {row: behind for row, behind in (led or {}).items() if row < len(program[0][2])}
            if not led:
                break
            row = source.choice(sorted(led))
            walk.append(row)
            standing = led[row]
        return walk

    def test_walks_that_ring(self):
        ring = [0, 1, 0]
        program = (("main", ("n",), (("get", "n"), ("if", 0), *END)),)
        self.holds(program, ("agree", "main", ring * 300 + [0], [0]), False)
        self.holds(program, ("agree", "main", [0, 1] * 500 + [0], [0]))
        self.holds(program, ("apart", "main", [0, 1] * 500 + [0, 1], [0]))
        paper = part_paper(program, "main")
        longer = ("sound", "main", paper[2], [[0, 1] * 50 + walk for walk in paper[3]])
        self.holds(program, longer)
        self.holds(PROGRAM, ("two", "twofold", [0, 1] * 200 + [0], [0]))
        self.holds(PROGRAM, ("two", "twofold", [0, 1] * 200 + [0], [0, 1] * 200 + [0]), False)
        self.holds(PROGRAM, ("two", "twofold", [0, 1] * 200, [0, 1] * 100))
        self.holds(PROGRAM, ("two", "twofold", [0, 1] * 200, [0, 1] * 100 + [0]), False)
        self.holds(PROGRAM, ("lacks", "lacking", [0, 1, 0, 1, 0, 1, 2]))

    def test_sound_told_as_not_sound_and_the_contrary(self):
        for name in ("lacking", "falling", "twofold", "guarded"):
            paper = part_paper(PROGRAM, name)
            for known, walks in (([(0, ())], [[0]]), ([(0, ()), (1, ())], [[0], [0, 1]]),
                                 ([(0, ()), (1, ()), (0, ())], [[0], [0, 1], [0, 1, 2]])):
                self.holds(PROGRAM, ("sound", name, known, walks), False)
            for other in ("main", "watch"):
                self.holds(PROGRAM, (paper[0], other, *paper[2:]), False)
        self.holds(PROGRAM, ("lacks", "main", [0]), False)
        self.holds(PROGRAM, ("falls", "watch", [0, 1]), False)
        self.holds(PROGRAM, ("two", "main", [0], [0]), False)

    def test_a_row_that_lacks_leads_nowhere(self):
        for rows in ((("add",), ("back",)), (("add",), ("put", 0)), (("done",), ("add",)), (("away",), ("away",)),
                     (("if", 1), ("add",))):
            program = (("main", (), rows),)
            self.holds(program, ("lacks", "main", [0]))
            for word in ("lacks", "falls"):
                self.holds(program, (word, "main", [0, 1]), False)
            self.holds(program, ("falls", "main", [0]), False)
            self.holds(program, ("two", "main", [0, 1], [0]), False)
        program = (("main", (), (("if", 2), ("put", 0), ("back",))),)
        self.holds(program, ("two", "main", [0, 2], [0, 1, 2]), False)
        self.holds((("main", (), (("put", 1), *program[0][2][:1], *program[0][2][1:])),),
                   ("two", "main", [0, 1, 2], [0, 1, 2, 3]), False)

    def test_sound_papers_of_parts_that_lack_or_fall(self):
        for rows, known, walks in (
            ((("throw",),), [(0, ())], [[0]]), ((("back",),), [(0, ())], [[0]]), ((("put", 0),), [(0, ())], [[0]]),
            ((("put", 0), ("if", 0)), [(0, ()), (1, ())], [[0], [0, 1]]), ((("put", 0), ("say",)), [(0, ()), (1, ())],
                                                                           [[0], [0, 1]]),
            ((("done",), *END), [(0, ()), (0, ()), (1, ())], [[0], [0, 1], [0, 1, 2]]),
            ((("try", 0),), [(0, ())], [[0]]), ((("go", 0), ("away",)), [(0, ()), (0, ())], [[0], [0]]),
        ):
            self.holds((("main", (), rows),), ("sound", "main", known, walks), False)

    def test_the_row_behind_the_last_one(self):
        for last, due in (((("if", 0),), True), ((("try", 0),), True), ((("go", 0),), False), ((("back",),), False),
                          ((("throw",),), False),
                          ((("add",),), False), ((("away",),), True)):
            program = (("main", (), (("put", 0), *last)),)
            self.holds(program, ("falls", "main", [0, 1]), due)
            self.holds(program, ("falls", "main", [0, 1, 2]), False)
        self.holds((("main", (), (("put", 0), ("add",))),), ("lacks", "main", [0, 1]))

    def test_a_row_that_is_not_met_may_not_be_told_as_met(self):
        program = (("main", (), (*END, ("put", 0), ("back",))),)
        paper = part_paper(program, "main")
        self.assertEqual(paper, ("sound", "main", [(0, ()), (1, ()), None, None], [[0], [0, 1], None, None]))
        self.holds(program, ("sound", "main", [(0, ()), (1, ()), (0, ()), None], [[0], [0, 1], None, None]), False)
        self.holds(program, ("sound", "main", [(0, ()), (1, ()), (0, ()), (1, ())],
                             [[0], [0, 1], [0, 1, 2], [0, 1, 2, 3]]), False)
        self.holds(program, ("sound", "main", [(0, ()), None, None, None], [[0], None, None, None]), False)
        self.holds(program, ("sound", "main", [None, None, None, None], [None, None, None, None]), False)

    def test_refusals(self):
        for thing in any_things() + [very_deep(), list(PROGRAM)]:
            for part in ("main", thing):
                with self.assertRaises(NoProgram):
                    part_paper(thing, part)
            with self.assertRaises(NoPart):
                part_paper(PROGRAM, thing)
        for thing in any_things() + ["mai", "n"]:
            with self.assertRaises(NoPart) as caught:
                part_paper(UNSOUND, thing)
            self.assertEqual(repr(caught.exception.name), repr(thing))

    def test_new_lists(self):
        for program, name in ((PROGRAM, "twofold"), (PROGRAM, "main"), (SOUND, "main")):
            paper = part_paper(program, name)
            kept = copy.deepcopy(paper)
            lists = [inner for _, inner in places(paper) if isinstance(inner, list)]
            self.assertEqual(len({id(one) for one in lists}), len(lists))
            for one in lists:
                one.append(5)
                one[0] = 7
            self.assertEqual(part_paper(program, name), kept)


class RowsPaperTest(PaperTest):

    def test_rows_that_agree_that_do_not_and_that_are_never_met(self):
        name = "main"
        many = len(PROGRAM[0][2])
        known = standings(PROGRAM, name)
        seen = set()
        for one in range(many):
            for other in range(many):
                paper = rows_paper(PROGRAM, name, one, other)
                self.holds(PROGRAM, paper)
                seen.add(paper[0])
                self.assertEqual(paper[0] == "agree", agree(PROGRAM, name, one, other))
                if known[one] is None or known[other] is None:
                    unmet = one if known[one] is None else other
                    self.assertEqual(paper, ("unmet", name, unmet, [at for at in range(many) if known[at] is not None]))
                else:
                    self.assertEqual((paper[2][-1], paper[3][-1]), (one, other))
                if one % 3 == 0 and other % 4 == 0:
                    self.check_otherwise(PROGRAM, paper)
        self.assertEqual(seen, {"agree", "apart", "unmet"})

    def test_none_of_the_contrary(self):
        for one in range(14):
            for other in range(14):
                paper = rows_paper(PROGRAM, "main", one, other)
                for word in ("agree", "apart", "unmet"):
                    if word != paper[0]:
                        self.holds(PROGRAM, (word, *paper[1:]), False)

    def test_closed_sets(self):
        met = [0, 1, 2, 3, 5, 6, 7, 8, 9, 10, 11]
        for row, rows, due in (
            (4, met, True), (12, met, True), (13, met, True), (4, met + [12, 13], True), (4, met + [12], False),
            (4, met + [13], False),
            (12, sorted(met + [4]), True), (4, sorted(met + [4]), False), (4, met[1:], False), (4, met[:-1], False),
            (4, met[::-1], False),
            (4, met + [11], False), (4, [0, 0] + met[1:], False), (0, met, False), (4, [], False), (14, met, False),
            (-1, met, False),
            (4, [False] + met[1:], False), (4, [0, True] + met[2:], False), (True, met, False), (4, tuple(met), False),
            (4, met + [14], False),
            (4, [-1] + met, False), ("4", met, False), (None, met, False), (4, None, False), (4, [[0]] + met, False),
            (4, met + [None], False),
        ):
            self.holds(PROGRAM, ("unmet", "main", row, rows), due)
        for at in range(len(met)):
            self.holds(PROGRAM, ("unmet", "main", 4, met[:at] + met[at + 1:]), False)

    def test_rows_that_lead_behind_the_last_one_though_they_are_never_met(self):
        program = (("main", (), (*END, ("put", 1), ("go", 5), ("put", 0), ("away",))),)
        self.assertTrue(is_sound(program))
        self.holds(program, ("unmet", "main", 4, [0, 1, 2, 3, 5]))
        self.holds(program, ("unmet", "main", 2, [0, 1, 5]))
        self.holds(program, ("unmet", "main", 2, [0, 1, 3, 5]))
        self.holds(program, ("unmet", "main", 2, [0, 1, 3]), False)
        self.holds(program, ("unmet", "main", 5, [0, 1]))

    def test_of_a_part_that_is_not_sound_none_holds(self):
        program = (("main", (), (("put", 1), ("if", 3), ("add",), *END, ("back",))),)
        self.assertFalse(is_sound(program))
        for paper in (("agree", "main", [0], [0]), ("apart", "main", [0], [0, 1]),
                      ("unmet", "main", 5, [0, 1, 2, 3, 4])):
            self.holds(program, paper, False)
        # Another part that isn't sound is nothing to a part that is.
        self.holds(PROGRAM, ("agree", "watch", [0], [0]))

    def test_refusals_in_their_order(self):
        for thing in any_things() + [very_deep(), list(PROGRAM)]:
            for part, one, other in (("main", 0, 1), (thing, thing, thing)):
                with self.assertRaises(NoProgram):
                    rows_paper(thing, part, one, other)
            for one, other in ((0, 1), (thing, thing), (99, 0)):
                with self.assertRaises(NoPart):
                    rows_paper(PROGRAM, thing, one, other)
        for thing in [one for one in any_things() if not (type(one) is int and 0 <= one < 2)]:
            for part in ("lacking", "watch", "twofold"):
                for one, other, wrong in ((thing, 0, thing), (0, thing, thing), (thing, thing, thing),
                                          (thing, -5, thing), (-5, thing, -5)):
                    if thing == 2 and part == "lacking":
                        continue
                    with self.assertRaises(NoRow) as caught:
                        rows_paper(PROGRAM, part, one, other)
                    self.assertEqual(repr(caught.exception.row), repr(wrong))
        for part, paper in (("lacking", ("lacks", "lacking", [0, 1, 2])), ("twofold", ("two", "twofold", [0],
                                                                                       [0, 1, 0]))):
            with self.assertRaises(Unsound) as caught:
                rows_paper(PROGRAM, part, 0, 1)
            self.assertEqual((caught.exception.part, caught.exception.paper), (part, paper))


class RunPaperTest(PaperTest):

    def test_of_no_change_and_of_more(self):
        for most in (0, 1, 2, 39, 40, 41, 499, 500):
            for hooks in ((), (HOOK,), (HOOK,) * 4):
                paper = run_paper(RING, "main", (), hooks=hooks, most=most)
                self.assertEqual((paper[:4], len(paper[4])), (("run", "main", (), hooks), most + 1))
                self.assertIs(holds(RING, paper), True)
                state = begun(RING, "main", ())
                for told in paper[4]:
                    self.assertEqual(told, state)
                    state = changed(RING, hooks, state)
        self.assertEqual(run_paper(RING, "main"), run_paper(RING, "main", (), hooks=(), most=40))

    def test_of_a_run_that_ends(self):
        paper = run_paper(SOUND, "main", (0,))
        self.assertEqual(paper[4][-1], ((), (), ("back", 1)))
        for most in range(0, 12):
            told = run_paper(SOUND, "main", (0,), most=most)
            self.assertEqual(told[4], paper[4][:most + 1])
            self.holds(SOUND, told)
        self.holds(SOUND, paper[:4] + (paper[4] + paper[4][-1:],), False)
        self.holds(SOUND, paper[:4] + (paper[4] + paper[4][:1],), False)
        self.holds(SOUND, paper[:4] + ([],), False)

    def test_worths_in_a_list(self):
        numbers = [5]
        paper = run_paper(SOUND, "main", numbers)
        self.assertEqual((paper[2], numbers), ((5,), [5]))
        numbers[0] = 6
        self.assertEqual(paper, run_paper(SOUND, "main", (5,)))
        self.holds(SOUND, paper)

    def test_with_one_thing_otherwise(self):
        source = random.Random(72)
        for _ in range(15):
            program, hooks = random_program(source), random_hooks(source)
            paper = run_paper(program, "main", (2, 1), hooks=hooks, most=source.randrange(30))
            self.holds(program, paper)
            self.check_otherwise(program, paper, source, 8)
        program = (("main", ("n",), (("get", "n"), ("say",), *END)), ("watch", ("k", "r", "w"), END))
        paper = run_paper(program, "main", (1,), hooks=(("watch", ("row", "call"), ("main", 0, 1)),), most=16)
        self.holds(program, paper)
        # Other kinds, or rows, that fit the same moments are another paper that holds.
        self.assertGreater(self.check_otherwise(program, paper), 0)

    def test_another_program(self):
        paper = run_paper(RING, "main")
        self.holds((("main", (), (("put", 4), ("say",), ("go", 0))), RING[1]), paper, False)
        self.holds((("mains", (), RING[0][2]), RING[1]), paper, False)
        self.holds((RING[1], RING[0]), paper, False)
        self.holds(RING[:1], paper)
        self.holds(RING + (("wrong", (), (("add",),)),), paper, False)

    def test_six_hundred_states(self):
        states = run_paper(RING, "main", most=500)[4]
        while len(states) < 601:
            states.append(changed(RING, (), states[-1]))
        self.holds(RING, ("run", "main", (), (), states[:600]))
        self.assertIs(holds(RING, ("run", "main", (), (), states)), False)

    def test_refusals_in_their_order(self):
        for thing in any_things() + [very_deep(), list(PROGRAM)]:
            with self.assertRaises(NoProgram):
                run_paper(thing, thing, thing, hooks=thing)
            with self.assertRaises(Unsound) as caught:
                run_paper(UNSOUND, thing, thing, hooks=thing)
            self.assertEqual((caught.exception.part, caught.exception.paper), ("wrong", ("lacks", "wrong", [0])))
            with self.assertRaises(NoPart):
                run_paper(RING, thing, thing, hooks=thing)
            if thing not in ((), []):
                with self.assertRaises(NoNumbers) as caught:
                    run_paper(RING, "main", thing, hooks=thing)
                self.assertEqual(caught.exception.many, 0)
            if thing != ():
                with self.assertRaises(NoHook):
                    run_paper(RING, "main", (), hooks=thing)
        with self.assertRaises(NoNumbers) as caught:
            run_paper(RING, "watch", (1, 2, True), hooks=None)
        self.assertEqual(caught.exception.many, 3)
        for hooks in ([HOOK], (HOOK,) * 5, (HOOK, None), HOOK, (("main", ("row",), None),),
                      (("watch", ("row",), ("main", 0, True)),)):
            with self.assertRaises(NoHook):
                run_paper(RING, "main", hooks=hooks)
        for thing in ([1, 2, 3], [4, 5]):
            kept = list(thing)
            try:
                run_paper(RING, "watch", thing)
            except NoNumbers:
                pass
            self.assertEqual(thing, kept)

    def test_new_lists(self):
        paper = run_paper(RING, "main")
        kept = copy.deepcopy(paper)
        paper[4].clear()
        self.assertEqual(run_paper(RING, "main"), kept)


class LookerTest(PaperTest):

    def test_things_that_are_no_papers(self):
        for thing in any_things() + [very_deep(), very_deep("run"), PROGRAM, (PROGRAM,)]:
            self.assertIs(holds(PROGRAM, thing), False)
            for word in ("lacks", "falls", "two", "sound", "agree", "apart", "unmet", "run"):
                for paper in ((word, thing), (word, "main", thing), (word, "main", thing, thing),
                              (word, "main", thing, thing, thing),
                              (word, thing, thing), (thing, "main", [0]), (word, "main", thing, thing, thing, thing),
                              (word, "main"), (word,),
                              (thing, "main", [0], [0])):
                    if holds(PROGRAM, paper) is not False and not paper_holds(PROGRAM, paper):
                        self.fail(shown(paper))
        self.assertIs(holds(PROGRAM, ["lacks", "lacking", [0, 1, 2]]), False)

    def test_deep_things_within(self):
        deep = very_deep()
        for paper in (part_paper(PROGRAM, "lacking"), part_paper(PROGRAM, "main"), rows_paper(PROGRAM, "main", 0, 3),
                      rows_paper(PROGRAM, "main", 0, 4),
                      run_paper(SOUND, "main", (3,), hooks=(HOOK,))):
            program = SOUND if paper[0] == "run" else PROGRAM
            for path, _ in list(places(paper))[:400]:
                if holds(program, put_otherwise(paper, path, deep)) is not False:
                    self.fail(path)

    def test_no_program(self):
        for thing in any_things() + [very_deep(), list(PROGRAM)]:
            for paper in (thing, part_paper(PROGRAM, "lacking")):
                with self.assertRaises(NoProgram):
                    holds(thing, paper)

    def test_nothing_is_changed(self):
        for paper in (part_paper(PROGRAM, "main"), part_paper(PROGRAM, "twofold"), rows_paper(PROGRAM, "main", 0, 4),
                      run_paper(RING, "main")):
            program = RING if paper[0] == "run" else PROGRAM
            kept = copy.deepcopy((program, paper))
            self.assertEqual([holds(program, paper) for _ in range(2)], [True, True])
            self.assertEqual((program, paper), kept)


if __name__ == "__main__":
    unittest.main()
