"""Standings, sound parts and rows that agree: points 2, 9, 10 and 11, and the papers of 24 that Unsound has."""

import copy
import random
import unittest

from tests.reference import all_standings, check_unsound_paper, standing_by
from tests.samples import any_things, very_deep
from watchedrun.errors import NoPart, NoProgram, NoRow, Unsound
from watchedrun.programs import is_program
from watchedrun.standings import agree, is_sound, standings
from watchedrun.trees import made

# What each word takes and gives, as the document tells it.
TAKES_AND_GIVES = {
    ("put", 5): (0, 1), ("get", "a"): (0, 1), ("look", "a"): (0, 1),
    ("set", "a"): (1, 0), ("change", "a"): (1, 0), ("away",): (1, 0), ("say",): (1, 0), ("lead",): (1, 0), ("turn",): (1, 0),
    ("add",): (2, 1), ("less",): (2, 1), ("times",): (2, 1), ("over",): (2, 1), ("same",): (2, 1), ("below",): (2, 1),
    ("twin",): (1, 2), ("swap",): (2, 2),
    ("call", "none"): (0, 1), ("call", "one"): (1, 1), ("call", "two"): (2, 1), ("call", "three"): (3, 1),
}

END = (("put", 0), ("back",))

CALLED = (
    ("none", (), END), ("one", ("a",), END), ("two", ("a", "b"), END), ("three", ("a", "b", "c"), END),
)

SMALL = (("main", (), END),)

# Part b isn't sound, and neither is d.
MIXED = (("a", (), END), ("b", (), (("add",),)), ("c", (), (("put", 1), ("put", 2), *END)), ("d", (), (("put", 0),)))


def one_part(*rows):
    return (("main", (), rows), *CALLED)


def puts(many):
    return (("put", 0),) * many


class StandingsTest(unittest.TestCase):

    def sound(self, rows, told):
        program = one_part(*rows)
        self.assertIs(is_program(program), True, rows)
        self.assertEqual(standings(program, "main"), told, rows)
        self.assertEqual(all_standings(program, "main"), told, rows)
        self.assertIs(is_sound(program), True)

    def unsound(self, rows, kind=None):
        program = one_part(*rows)
        self.assertIs(is_program(program), True, rows)
        with self.assertRaises(Unsound) as caught:
            standings(program, "main")
        self.assertEqual(caught.exception.part, "main")
        check_unsound_paper(program, "main", caught.exception.paper)
        if kind is not None:
            self.assertEqual(caught.exception.paper[0], kind)
        self.assertIs(is_sound(program), False)
        return caught.exception.paper


class WordTest(StandingsTest):

    def test_what_each_word_takes_and_gives(self):
        for row, (taken, given) in TAKES_AND_GIVES.items():
            for more in (0, 1, 3):
                height = taken + more
                self.sound((*puts(height), row, *END), [
                    *[(k, ()) for k in range(height + 1)], (height - taken + given, ()), (height - taken + given + 1, ())])

    def test_a_word_lacks_at_just_one_number_too_few(self):
        for row, (taken, _) in TAKES_AND_GIVES.items():
            for height in range(taken):
                paper = self.unsound((*puts(height), row, *END), "lacks")
                self.assertEqual(paper, ("lacks", "main", list(range(height + 1))))

    def test_back_and_throw_lead_nowhere(self):
        for word in ("back", "throw"):
            self.sound((("put", 1), (word,)), [(0, ()), (1, ())])
            self.sound((("put", 1), (word,), ("add",), (word,)), [(0, ()), (1, ()), None, None])
            self.sound((*puts(3), (word,)), [(0, ()), (1, ()), (2, ()), (3, ())])
            self.assertEqual(self.unsound(((word,),)), ("lacks", "main", [0]))
            self.unsound((("put", 1), ("away",), (word,)), "lacks")

    def test_go(self):
        self.sound((("go", 2), ("add",), *END), [(0, ()), None, (0, ()), (1, ())])
        self.sound((("put", 1), ("go", 1)), [(0, ()), (1, ())])
        self.sound((("go", 0),), [(0, ())])

    def test_if(self):
        self.sound((("put", 1), ("if", 4), *END, ("put", 7), ("put", 8), ("back",)),
                   [(0, ()), (1, ()), (0, ()), (1, ()), (0, ()), (1, ()), (2, ())])
        self.sound((*puts(2), ("if", 3), ("back",)), [(0, ()), (1, ()), (2, ()), (1, ())])
        self.assertEqual(self.unsound((("if", 1), *END)), ("lacks", "main", [0]))
        self.unsound((("go", 1), ("if", 0), *END), "lacks")

    def test_try_and_done(self):
        self.sound((("try", 4), ("put", 1), ("done",), ("back",), ("back",)),
                   [(0, ()), (0, ((4, 0),)), (1, ((4, 0),)), (1, ()), (1, ())])
        self.sound((*puts(2), ("try", 6), ("done",), ("put", 3), ("back",), ("add",), ("away",), ("back",)),
                   [(0, ()), (1, ()), (2, ()), (2, ((6, 2),)), (2, ()), (3, ()), (3, ()), (2, ()), (1, ())])

    def test_guards_within_guards(self):
        self.sound((("put", 1), ("try", 9), ("put", 2), ("try", 8), ("put", 3), ("done",), ("done",), ("back",),
                    ("back",), ("back",)), [
            (0, ()), (1, ()), (1, ((9, 1),)), (2, ((9, 1),)), (2, ((9, 1), (8, 2))), (3, ((9, 1), (8, 2))),
            (3, ((9, 1),)), (3, ()), (3, ((9, 1),)), (2, ())])

    def test_back_and_throw_within_a_guard(self):
        for word in ("back", "throw"):
            self.sound((("try", 3), ("put", 1), (word,), (word,)),
                       [(0, ()), (0, ((3, 0),)), (1, ((3, 0),)), (1, ())])
            self.unsound((("put", 1), ("try", 3), (word,), ("back",)), "lacks")

    def test_a_word_lacks_above_a_guards_height(self):
        for row, (taken, given) in TAKES_AND_GIVES.items():
            for beneath in (0, 1, 3):
                for above in range(taken):
                    rows = (*puts(beneath), ("try", beneath + above + 4), *puts(above), row, *END, ("back",))
                    self.assertEqual(self.unsound(rows, "lacks"), ("lacks", "main", list(range(beneath + above + 2))))
                rows = (*puts(beneath), ("try", beneath + taken + 4), *puts(taken), row, *END, ("back",))
                guards = ((beneath + taken + 4, beneath),)
                self.sound(rows, [
                    *[(k, ()) for k in range(beneath + 1)], *[(beneath + k, guards) for k in range(taken + 1)],
                    (beneath + given, guards), (beneath + given + 1, guards), (beneath + 1, ())])

    def test_an_if_lacks_above_a_guards_height(self):
        self.unsound((("put", 1), ("try", 4), ("if", 3), *END), "lacks")
        self.sound((("try", 5), ("put", 1), ("if", 3), ("put", 2), ("back",), ("back",)),
                   [(0, ()), (0, ((5, 0),)), (1, ((5, 0),)), (0, ((5, 0),)), (1, ((5, 0),)), (1, ())])

    def test_the_inner_guards_height_counts(self):
        rows = (("try", 6), ("put", 1), ("try", 7), ("away",), *END, ("back",), ("back",))
        self.assertEqual(self.unsound(rows, "lacks"), ("lacks", "main", [0, 1, 2, 3]))
        rows = (("try", 7), ("put", 1), ("try", 8), ("done",), ("away",), *END, ("back",), ("back",))
        self.sound(rows, [(0, ()), (0, ((7, 0),)), (1, ((7, 0),)), (1, ((7, 0), (8, 1))), (1, ((7, 0),)), (0, ((7, 0),)),
                          (1, ((7, 0),)), (1, ()), (2, ((7, 0),))])

    def test_done_lacks_where_no_guard_is_open(self):
        self.assertEqual(self.unsound((("done",), *END)), ("lacks", "main", [0]))
        self.unsound((*puts(3), ("done",), ("back",)), "lacks")
        self.unsound((("try", 4), ("done",), ("done",), *END), "lacks")
        self.unsound((("try", 3), *END, ("done",), ("back",)), "lacks")

    def test_go_try_done_need_no_number(self):
        self.sound((("put", 1), ("try", 5), ("go", 3), ("try", 6), ("go", 7), ("back",), ("back",), ("done",), ("done",),
                    ("back",)), [
            (0, ()), (1, ()), (1, ((5, 1),)), (1, ((5, 1),)), (1, ((5, 1), (6, 1))), (2, ()), (2, ((5, 1),)),
            (1, ((5, 1), (6, 1))), (1, ((5, 1),)), (1, ())])

    def test_a_call_of_its_own_part(self):
        program = (("main", ("a", "b"), (("put", 1), ("put", 2), ("call", "main"), ("back",))),)
        self.assertEqual(standings(program, "main"), [(0, ()), (1, ()), (2, ()), (1, ())])
        program = (("main", ("a", "b"), (("put", 1), ("call", "main"), ("back",))),)
        with self.assertRaises(Unsound) as caught:
            standings(program, "main")
        self.assertEqual(caught.exception.paper, ("lacks", "main", [0, 1]))

    def test_a_part_s_own_names_are_not_on_its_pile(self):
        program = (("main", ("a", "b", "c"), (("back",),)),)
        self.assertIs(is_sound(program), False)
        self.assertEqual(standings((("main", ("a", "b", "c"), END),), "main"), [(0, ()), (1, ())])


class SoundTest(StandingsTest):

    def test_a_row_behind_the_last(self):
        for row in TAKES_AND_GIVES:
            height = TAKES_AND_GIVES[row][0]
            paper = self.unsound((*puts(height), row), "falls")
            self.assertEqual(paper, ("falls", "main", list(range(height + 1))))
        self.assertEqual(self.unsound((("put", 1), ("if", 0))), ("falls", "main", [0, 1]))
        self.assertEqual(self.unsound((("put", 1),)), ("falls", "main", [0]))
        self.unsound((("go", 2), ("back",), ("try", 1)), "falls")
        self.unsound((("try", 3), ("go", 4), ("back",), ("back",), ("done",)), "falls")

    def test_a_last_row_that_lacks_leads_nowhere(self):
        for row in (("add",), ("away",), ("done",), ("if", 0), ("call", "one"), ("twin",), ("swap",)):
            self.assertEqual(self.unsound((row,)), ("lacks", "main", [0]))

    def test_a_last_row_that_no_walk_meets(self):
        self.sound((*END, ("put", 1)), [(0, ()), (1, ()), None])
        self.sound((("go", 0), ("try", 0)), [(0, ()), None])

    def test_two_walks_with_unlike_heights(self):
        rows = (("put", 1), ("if", 3), ("put", 2), ("put", 3), ("back",))
        paper = self.unsound(rows, "two")
        self.assertEqual({tuple(paper[2]), tuple(paper[3])}, {(0, 1, 3), (0, 1, 2, 3)})
        self.sound((("put", 1), ("if", 4), ("put", 2), ("go", 5), ("put", 3), ("back",)),
                   [(0, ()), (1, ()), (0, ()), (1, ()), (0, ()), (1, ())])

    def test_two_walks_with_unlike_guards(self):
        paper = self.unsound((("put", 1), ("if", 3), ("try", 4), ("go", 3), ("back",)), "two")
        self.assertEqual(paper[2][-1], 3)
        rows = (("put", 1), ("if", 4), ("try", 7), ("go", 5), ("try", 8), *END, ("back",), ("back",))
        self.unsound(rows, "two")
        rows = (("put", 1), ("if", 4), ("try", 7), ("go", 5), ("try", 7), *END, ("back",))
        self.sound(rows, [(0, ()), (1, ()), (0, ()), (0, ((7, 0),)), (0, ()), (0, ((7, 0),)), (1, ((7, 0),)), (1, ())])

    def test_two_walks_with_guards_of_unlike_heights(self):
        rows = (("put", 1), ("if", 5), ("try", 10), ("put", 2), ("go", 7), ("put", 3), ("try", 11), ("put", 4), ("away",),
                ("go", 7), ("back",), ("away",), ("back",))
        self.unsound(rows)
        same_height = (("put", 1), ("if", 5), ("put", 7), ("try", 9), ("go", 8), ("try", 9), ("put", 2), ("go", 8),
                       ("go", 8), ("back",))
        self.unsound(same_height, "two")

    def test_two_walks_with_guards_in_another_order(self):
        one = (("try", 20), ("try", 21))
        rows = (("put", 1), ("if", 5), *one, ("go", 7), one[1], one[0], ("go", 7), *[("go", 8)] * 12,
                ("back",), ("back",))
        paper = self.unsound(rows, "two")
        self.assertNotEqual(standing_by(one_part(*rows), "main", paper[2]), standing_by(one_part(*rows), "main", paper[3]))

    def test_an_if_to_the_row_behind_it(self):
        self.sound((("put", 1), ("if", 2), *END), [(0, ()), (1, ()), (0, ()), (1, ())])

    def test_a_try_to_its_own_row(self):
        paper = self.unsound((("try", 0), *END), "two")
        self.assertEqual({tuple(paper[2]), tuple(paper[3])}, {(0,), (0, 0)})

    def test_loops(self):
        self.sound((("get", "n"), ("if", 3), ("go", 4), ("go", 0), *END), [
            (0, ()), (1, ()), (0, ()), (0, ()), (0, ()), (1, ())])
        paper = self.unsound((("put", 1), ("go", 0)), "two")
        self.assertEqual({tuple(paper[2]), tuple(paper[3])}, {(0,), (0, 1, 0)})
        self.sound((("put", 1), ("put", 1), ("if", 1), ("back",)), [(0, ()), (1, ()), (2, ()), (1, ())])
        self.unsound((("put", 1), ("put", 1), ("if", 0), ("back",)), "two")
        self.unsound((("try", 2), ("go", 0), ("back",)), "two")
        self.unsound((*puts(2), ("twin",), ("if", 1), ("back",)))
        self.sound((("put", 1), ("twin",), ("if", 1), ("back",)), [(0, ()), (1, ()), (2, ()), (1, ())])

    def test_what_a_walk_comes_back_to_with_fewer_numbers(self):
        self.unsound((("put", 1), ("put", 1), ("away",), ("go", 2)))
        self.unsound((("go", 1), ("put", 3), ("away",), ("away",), ("go", 1)), "lacks")

    def test_rows_that_no_walk_meets(self):
        self.sound((("go", 5), ("add",), ("done",), ("go", 5), ("try", 0), *END, ("throw",)),
                   [(0, ()), None, None, None, None, (0, ()), (1, ()), None])
        program = one_part(("put", 0), ("back",), *[("add",)] * 58)
        self.assertEqual(standings(program, "main"), [(0, ()), (1, ()), *[None] * 58])

    def test_a_taker_is_met_though_nothing_throws(self):
        self.sound((("try", 3), ("done",), ("go", 4), ("away",), *END),
                   [(0, ()), (0, ((3, 0),)), (0, ()), (1, ()), (0, ()), (1, ())])
        self.unsound((("try", 3), ("done",), ("go", 4), ("add",), *END), "lacks")

    def test_a_part_that_is_sound_beside_one_that_is_not(self):
        self.assertEqual(standings(MIXED, "a"), [(0, ()), (1, ())])
        self.assertEqual(standings(MIXED, "c"), [(0, ()), (1, ()), (2, ()), (3, ())])
        for part, paper in (("b", ("lacks", "b", [0])), ("d", ("falls", "d", [0]))):
            with self.assertRaises(Unsound) as caught:
                standings(MIXED, part)
            self.assertEqual((caught.exception.part, caught.exception.paper), (part, paper))
        self.assertIs(is_sound(MIXED), False)

    def test_a_program_is_sound_where_each_part_is(self):
        good, bad = END, (("add",), ("back",))
        for many in range(1, 9):
            names = "abcdefgh"[:many]
            self.assertIs(is_sound(tuple((name, (), good) for name in names)), True)
            for wrong in names:
                program = tuple((name, (), bad if name == wrong else good) for name in names)
                self.assertIs(is_sound(program), False)

    def test_a_part_that_calls_one_that_is_not_sound_may_be_sound(self):
        program = (("main", (), (("call", "bad"), ("back",))), ("bad", (), (("back",),)))
        self.assertEqual(standings(program, "main"), [(0, ()), (1, ())])
        self.assertIs(is_sound(program), False)

    def test_trees_are_made_to_sound_programs(self):
        tree = (("main", ("n",), (
            ("while", ("name", "n"), (("try", (("set", "n", ("call", "b", (1, ("name", "n")))),), "f", (("back", 3),)),)),
            ("if", 1, (("throw", 2),), (("say", 4),)))), ("b", ("x", "y"), (("back", ("less", ("name", "x"), 1)),)))
        program = made(tree)
        self.assertIs(is_sound(program), True)
        for part in ("main", "b"):
            self.assertEqual(standings(program, part), all_standings(program, part))


class ManyWalksTest(StandingsTest):

    def test_sixty_rows_with_very_many_walks(self):
        rows = []
        for at in range(0, 57, 3):
            rows += [("put", 1), ("if", at + 3), ("go", at + 3)]
        rows += [("go", 58), ("put", 0), ("back",)]
        self.assertEqual(len(rows), 60)
        told = standings(one_part(*rows), "main")
        self.assertEqual(told, [(0, ()), (1, ()), (0, ())] * 19 + [(0, ()), (0, ()), (1, ())])

    def test_sixty_rows_with_very_many_walks_that_loop(self):
        rows = [("put", 1), ("if", 0)] * 29 + list(END)
        self.assertEqual(standings(one_part(*rows), "main"), [(0, ()), (1, ())] * 30)
        rows[-2:] = [("put", 0), ("add",)]
        self.unsound(rows, "lacks")

    def test_sixty_rows_with_very_many_standings(self):
        rows = []
        for at in range(0, 57, 3):
            rows += [("put", 1), ("if", at + 3), ("put", 1)]
        rows += [("go", 57), ("put", 0), ("back",)]
        self.unsound(rows, "two")

    def test_many_guards(self):
        rows = [("try", 59)] + [("put", 0)] * 57 + [("back",), ("back",)]
        self.assertEqual(len(standings(one_part(*rows), "main")), 60)
        deep = [("try", 58)] * 57 + [("go", 57), ("go", 58), ("back",)]
        self.unsound(deep)
        apart = [("try", 31 + at) for at in range(29)] + [("put", 0), ("back",)] + [("back",)] * 29
        told = standings(one_part(*apart), "main")
        self.assertEqual(told[29], (0, tuple((31 + at, 0) for at in range(29))))
        self.assertEqual(told[59], (1, tuple((31 + at, 0) for at in range(28))))

    def test_a_long_walk(self):
        rows = (*puts(58), ("add",), ("back",))
        self.assertEqual(standings(one_part(*rows), "main")[58:], [(58, ()), (57, ())])
        self.assertEqual(self.unsound((*puts(59), ("add",))), ("falls", "main", list(range(60))))
        self.assertEqual(self.unsound((("put", 0), *[("twin",)] * 58, ("done",))), ("lacks", "main", list(range(60))))

    def test_papers_behind_rows_that_go_hither_and_thither(self):
        rows = (("go", 6), ("add",), ("go", 9), ("put", 1), ("if", 2), ("back",), ("put", 4), ("go", 3), ("back",), ("swap",))
        paper = self.unsound(rows, "lacks")
        self.assertEqual(paper[2], [0, 6, 7, 3, 4, 2, 9])


class RandomPartsTest(unittest.TestCase):
    """Parts put together by numbers that are the same each time."""

    LONE = ("add", "less", "times", "over", "same", "below", "twin", "swap", "away", "say", "back", "throw", "done",
            "lead", "turn")

    def row(self, source, at, many):
        choice = source.randrange(12)
        if choice < 4:
            return source.choice((("put", 1), ("get", "a"), ("look", "b"), ("call", "none")))
        if choice < 7:
            word = source.choice(("go", "if", "try", "try"))
            told = [row for row in range(many) if word != "try" or row != at + 1]
            return (word, source.choice(told)) if told else ("back",)
        if choice == 7:
            return ("call", source.choice(("one", "two", "three")))
        if choice == 8:
            return source.choice((("set", "a"), ("change", "a"), ("done",), ("back",)))
        return (source.choice(self.LONE),)

    def test_many_parts(self):
        source = random.Random(10)
        kinds = {}
        for _ in range(12000):
            many = source.randrange(1, 9)
            program = one_part(*[self.row(source, at, many) for at in range(many)])
            told = all_standings(program, "main")
            try:
                answer = standings(program, "main")
            except Unsound as refused:
                self.assertIsNone(told, program)
                self.assertEqual(refused.part, "main")
                check_unsound_paper(program, "main", refused.paper)
                self.assertIs(is_sound(program), False)
                kinds[refused.paper[0]] = kinds.get(refused.paper[0], 0) + 1
                continue
            self.assertEqual(answer, told, program)
            self.assertIs(is_sound(program), True)
            kinds["sound"] = kinds.get("sound", 0) + 1
            for one in range(many):
                for other in range(many):
                    same = told[one] is not None and told[one] == told[other]
                    self.assertIs(agree(program, "main", one, other), same)
        self.assertEqual(sorted(kinds), ["falls", "lacks", "sound", "two"])
        self.assertGreater(min(kinds.values()), 100, kinds)

    def test_many_long_parts(self):
        source = random.Random(11)
        for _ in range(300):
            rows = [self.row(source, at, 60) for at in range(60)]
            rows[:12] = puts(12)
            program = one_part(*rows)
            told = all_standings(program, "main")
            try:
                self.assertEqual(standings(program, "main"), told)
            except Unsound as refused:
                self.assertIsNone(told)
                check_unsound_paper(program, "main", refused.paper)


class AgreeTest(unittest.TestCase):

    ROWS = (("put", 1), ("try", 6), ("put", 2), ("if", 4), ("done",), ("back",), ("away",), ("go", 8), ("back",), ("add",))

    def test_rows_that_agree(self):
        program = one_part(*self.ROWS)
        told = standings(program, "main")
        self.assertEqual(told, [(0, ()), (1, ()), (1, ((6, 1),)), (2, ((6, 1),)), (1, ((6, 1),)), (1, ()), (2, ()),
                                (1, ()), (1, ()), None])
        for one, other in ((0, 0), (1, 1), (1, 5), (5, 1), (2, 4), (4, 2), (1, 8), (7, 8), (3, 3), (6, 6)):
            self.assertIs(agree(program, "main", one, other), True, (one, other))
        for one, other in ((0, 1), (1, 0), (1, 2), (2, 1), (3, 6), (6, 3), (4, 5), (0, 6)):
            self.assertIs(agree(program, "main", one, other), False, (one, other))

    def test_a_row_that_is_not_met_agrees_with_none(self):
        program = one_part(*self.ROWS)
        for row in range(10):
            self.assertIs(agree(program, "main", row, 9), False)
            self.assertIs(agree(program, "main", 9, row), False)

    def test_of_the_part_that_is_told(self):
        program = (("a", (), (("put", 1), ("away",), ("put", 2), ("back",))), ("b", (), (("put", 1), ("put", 2), *END)))
        self.assertIs(agree(program, "a", 0, 2), True)
        self.assertIs(agree(program, "b", 0, 2), False)

    def test_a_sound_part_beside_one_that_is_not(self):
        self.assertIs(agree(MIXED, "a", 0, 0), True)
        self.assertIs(agree(MIXED, "c", 1, 3), False)


class NewListsTest(unittest.TestCase):

    def test_the_list_is_new_each_time(self):
        program = one_part(("try", 3), *END, ("back",))
        elder = [(0, ()), (0, ((3, 0),)), (1, ((3, 0),)), (1, ())]
        told = standings(program, "main")
        self.assertIs(type(told), list)
        told.append(5)
        told[0] = None
        self.assertEqual(standings(program, "main"), elder)
        self.assertIs(agree(program, "main", 0, 0), True)
        self.assertIsNot(standings(program, "main"), standings(program, "main"))
        told = standings(program, "main")
        for standing in told:
            self.assertIs(type(standing), tuple)
            self.assertIs(type(standing[1]), tuple)
            for guard in standing[1]:
                self.assertIs(type(guard), tuple)

    def test_the_lists_of_a_paper_are_new_each_time(self):
        for rows in ((("put", 1), ("add",)), (("put", 1),), (("put", 1), ("if", 3), ("put", 2), ("go", 3))):
            program = one_part(*rows)
            papers = []
            for call in (lambda: standings(program, "main"), lambda: agree(program, "main", 0, 0)):
                with self.assertRaises(Unsound) as caught:
                    call()
                paper = caught.exception.paper
                self.assertEqual([type(thing) for thing in paper[2:]], [list] * (len(paper) - 2))
                papers.append(copy.deepcopy(paper))
                for number, walk in enumerate(paper[2:]):
                    walk.append("more")
                    self.assertEqual(sum(other.count("more") for other in paper[2:]), number + 1)
            self.assertEqual(papers[0], papers[1])
            check_unsound_paper(program, "main", papers[1])


NOT_PROGRAMS = [list(SMALL), SMALL + (None,), (("main", (), [("back",)]),), (("main", (), (("put", True),)),), ()]


class RefusedTest(unittest.TestCase):

    def test_no_program_is_ahead_of_all_else(self):
        for thing in any_things() + NOT_PROGRAMS + [very_deep()]:
            with self.assertRaises(NoProgram):
                is_sound(thing)
            for part in ("main", "none", None, [], True):
                with self.assertRaises(NoProgram):
                    standings(thing, part)
                for one, other in ((0, 0), (99, 0), (0, None), (True, [])):
                    with self.assertRaises(NoProgram):
                        agree(thing, part, one, other)

    def test_no_part_is_ahead_of_no_row_and_unsound(self):
        for program in (SMALL, MIXED[1:]):
            for part in any_things() + ["mai", "maine", "back", "z"]:
                with self.assertRaises(NoPart) as caught:
                    standings(program, part)
                self.assertEqual(repr(caught.exception.name), repr(part))
                for one, other in ((0, 0), (99, 0), (0, None), (True, [])):
                    with self.assertRaises(NoPart) as caught:
                        agree(program, part, one, other)
                    self.assertEqual(repr(caught.exception.name), repr(part))

    def not_rows(self):
        things = [thing for thing in any_things() if thing is True or thing is False or thing not in (0, 1)]
        return things + [2, 3, -2, "1"]

    def test_no_row_is_ahead_of_unsound(self):
        unsound = (("main", (), (("put", 1), ("add",))),)
        for program in (SMALL, unsound):
            for row in self.not_rows():
                for one, other in ((row, 0), (0, row), (1, row), (row, 1), (row, row)):
                    with self.assertRaises(NoRow) as caught:
                        agree(program, "main", one, other)
                    self.assertEqual(repr(caught.exception.row), repr(row))

    def test_no_row_of_one_ahead_of_other(self):
        for one, other in ((2, 3), (3, 2), (True, None), ([1], False), ("a", 99), (-1, -2)):
            with self.assertRaises(NoRow) as caught:
                agree(SMALL, "main", one, other)
            self.assertEqual(repr(caught.exception.row), repr(one))

    def test_rows_are_those_of_the_part(self):
        program = (("a", (), END), ("b", (), (("put", 1), *END)))
        self.assertIs(agree(program, "b", 2, 2), True)
        with self.assertRaises(NoRow) as caught:
            agree(program, "a", 2, 3)
        self.assertEqual(caught.exception.row, 2)

    def test_unsound_of_that_part(self):
        for part, paper in (("b", ("lacks", "b", [0])), ("d", ("falls", "d", [0]))):
            with self.assertRaises(Unsound) as caught:
                agree(MIXED, part, 0, 0)
            self.assertEqual((caught.exception.part, caught.exception.paper), (part, paper))

    def test_a_field_holds_a_copy(self):
        handed = [[1], 2]
        with self.assertRaises(NoRow) as caught:
            agree(SMALL, "main", 0, handed)
        handed[0].append(3)
        self.assertEqual(caught.exception.row, [[1], 2])

    def test_nothing_that_is_handed_in_is_changed(self):
        calls = (
            lambda thing: is_sound(thing), lambda thing: standings(thing, "main"), lambda thing: standings(SMALL, thing),
            lambda thing: agree(thing, "main", 0, 1), lambda thing: agree(SMALL, thing, 0, 1),
            lambda thing: agree(SMALL, "main", thing, 1), lambda thing: agree(SMALL, "main", 1, thing),
        )
        for thing in any_things() + NOT_PROGRAMS + [SMALL, MIXED, one_part(("put", 1))]:
            elder = repr(thing)
            for call in calls:
                try:
                    call(thing)
                except (NoProgram, NoPart, NoRow, Unsound):
                    pass
                self.assertEqual(repr(thing), elder)


if __name__ == "__main__":
    unittest.main()
