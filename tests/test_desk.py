"""[30] to [32]: the desk, its lines, its refusals; [4] of these."""

import unittest

from shutpairs.beside import Beside
from shutpairs.counts import count_of
from shutpairs.desk import Desk
from shutpairs.errors import (
    NoLine, NoName, NoPlace, NoRule, NoSum, NotKept, NothingLeft, NotSoMany, ShutError, Unmatched,
)
from shutpairs.lists import kept_of
from shutpairs.texts import heap_text, read_rule
from shutpairs.walks import end_of, walk_of

GREAT = "9" * 60
ASKED = [
    "names", "show a", "show b", "keeps a 4 2 2", "keeps b none", "count a 9", "count b 400", "list a 6", "list b 0",
    "match a b", "match b a", "send a b 6 2 1", "steps b a 3 1 1",
]


def desk_after(*lines):
    desk = Desk()
    for line in lines:
        desk.tell(line)
    return desk


def answers(desk):
    """What the desk says to the lines that ask, a refusal by its class and fields."""
    told = []
    for line in ASKED:
        try:
            told.append(desk.tell(line))
        except ShutError as refusal:
            told.append((type(refusal), vars(refusal)))
    return told


class DeskCase(unittest.TestCase):
    def told(self, desk, *rows):
        for line, wanted in rows:
            with self.subTest(line=line):
                answer = desk.tell(line)
                self.assertEqual(answer, wanted)
                self.assertIs(type(answer), str)

    def refused(self, kind, desk, line, **fields):
        with self.subTest(line=line):
            with self.assertRaises(kind) as refusal:
                desk.tell(line)
            self.assertIs(type(refusal.exception), kind)
            for field, wanted in fields.items():
                self.assertEqual(getattr(refusal.exception, field), wanted)


class Deeds(DeskCase):
    def test_rule(self):
        self.told(
            Desk(),
            ("rule a 2 1 | 3", "2 1 | 3"),
            ("show a", "2 1 | 3"),
            ("rule a no heaps", "no heaps"),
            ("show a", "no heaps"),
            ("rule abcdefgh none", "none"),
            ("show abcdefgh", "none"),
            ("rule z none | none | 1 | 2 2 | 3 3 3 | 4", "none | none | 1 | 2 2 | 3 3 3 | 4"),
            ("show a", "no heaps"),
            ("names", "a abcdefgh z"),
        )

    def test_rules_of_none_to_six_heaps_with_parts_of_sixty_figures(self):
        for many in range(7):
            text = " | ".join([f"{GREAT} {GREAT} {number + 1}" for number in range(many)]) or "no heaps"
            self.told(Desk(), (f"rule big {text}", text), ("show big", text), ("copy big other", text))

    def test_add(self):
        self.told(
            desk_after("rule a no heaps", "rule b 7"),
            ("add a 3 3", "3 3"),
            ("add a none", "3 3 | none"),
            ("add a 3 3", "3 3 | none | 3 3"),
            (f"add a {GREAT} 1", f"3 3 | none | 3 3 | {GREAT} 1"),
            ("add a 1", f"3 3 | none | 3 3 | {GREAT} 1 | 1"),
            ("add a 2", f"3 3 | none | 3 3 | {GREAT} 1 | 1 | 2"),
            ("show a", f"3 3 | none | 3 3 | {GREAT} 1 | 1 | 2"),
            ("show b", "7"),
        )

    def test_take(self):
        self.told(
            desk_after("rule a 1 | 2 | 3 | 4 | 5 | 6", "copy a b"),
            ("take a 5", "1 | 2 | 3 | 4 | 5"),
            ("take a 0", "2 | 3 | 4 | 5"),
            ("take a 1", "2 | 4 | 5"),
            ("take a 1", "2 | 5"),
            ("take a 1", "2"),
            ("take a 0", "no heaps"),
            ("show a", "no heaps"),
            ("show b", "1 | 2 | 3 | 4 | 5 | 6"),
            ("take b 3", "1 | 2 | 3 | 5 | 6"),
        )

    def test_copy(self):
        self.told(
            desk_after("rule a 1 | 2", "rule b 3"),
            ("copy a b", "1 | 2"),
            ("show b", "1 | 2"),
            ("copy a c", "1 | 2"),
            ("copy a a", "1 | 2"),
            ("add a 4", "1 | 2 | 4"),
            ("show b", "1 | 2"),
            ("show c", "1 | 2"),
            ("take c 0", "2"),
            ("show a", "1 | 2 | 4"),
            ("names", "a b c"),
        )

    def test_drop(self):
        desk = desk_after("rule b 1", "rule a 2", "rule ab 3")
        self.told(desk, ("drop ab", "a b"), ("show a", "2"), ("drop b", "a"), ("drop a", "no names"))
        self.refused(NoName, desk, "show a", name="a")
        self.told(desk, ("rule a 5", "5"), ("names", "a"))

    def test_names_like_the_words_of_the_lines(self):
        desk = Desk()
        words = ["rule", "add", "take", "copy", "drop", "undo", "again", "names", "show", "keeps", "count", "list"]
        words += ["match", "send", "steps", "none", "no", "heaps", "yes"]
        for word in words:
            self.told(desk, (f"rule {word} 1", "1"), (f"add {word} none", "1 | none"), (f"show {word}", "1 | none"))
        self.told(desk, ("names", " ".join(sorted(words))))


class UndoAndAgain(DeskCase):
    def test_undo_tells_the_names(self):
        self.told(
            desk_after("rule b 1", "rule a 2"),
            ("undo", "b"),
            ("undo", "no names"),
            ("again", "b"),
            ("again", "a b"),
            ("undo", "b"),
            ("again", "a b"),
        )

    def test_each_kind_of_deed(self):
        desk = desk_after("rule a 1 | 2", "rule b 3")
        for deed in ("rule a 5", "rule c 5", "add a none", "take a 1", "copy b a", "copy a c", "copy a a", "drop a"):
            before = answers(desk)
            desk.tell(deed)
            behind = answers(desk)
            desk.tell("undo")
            self.assertEqual(answers(desk), before)
            desk.tell("again")
            self.assertEqual(answers(desk), behind)
            self.refused(NothingLeft, desk, "again")
            desk.tell("undo")
            self.assertEqual(answers(desk), before)

    def test_many_deeds_back_and_again(self):
        desk = Desk()
        states = [answers(desk)]
        for number in range(40):
            for deed in (f"rule a {number + 1}", "copy a b", "add a 1", "copy b b", "take a 0", "drop b", "copy a a"):
                desk.tell(deed)
                states.append(answers(desk))
        last = len(states) - 1
        for at in range(last - 1, -1, -1):
            desk.tell("undo")
            self.assertEqual(answers(desk), states[at])
        self.refused(NothingLeft, desk, "undo")
        for at in range(1, last + 1):
            desk.tell("again")
            self.assertEqual(answers(desk), states[at])
        self.refused(NothingLeft, desk, "again")
        desk.tell("undo")
        self.assertEqual(answers(desk), states[last - 1])

    def test_a_deed_that_changes_nothing_is_undone_by_itself(self):
        self.told(
            desk_after("rule a 1", "rule a 1", "copy a a"),
            ("undo", "a"),
            ("undo", "a"),
            ("undo", "no names"),
            ("again", "a"),
            ("show a", "1"),
            ("again", "a"),
            ("again", "a"),
        )

    def test_a_deed_forgets_all_that_were_undone(self):
        for deed in ("rule d 4", "rule a 1", "add a 2", "take a 0", "copy a c", "copy a a", "drop a"):
            desk = desk_after("rule a 1", "rule b 2", "rule c 3", "undo", "undo", deed)
            behind = answers(desk)
            self.refused(NothingLeft, desk, "again")
            self.assertEqual(answers(desk), behind)
            self.told(desk, ("undo", "a"), ("show a", "1"), ("undo", "no names"))
            self.refused(NothingLeft, desk, "undo")
            desk.tell("again")
            desk.tell("again")
            self.assertEqual(answers(desk), behind)
            self.refused(NothingLeft, desk, "again")

    def test_lines_that_ask_forget_nothing(self):
        desk = desk_after("rule a 1 1 | 2 2", "rule b 2 | 4", "rule c 5", "undo")
        for line in ASKED:
            desk.tell(line)
        self.told(desk, ("again", "a b c"), ("undo", "a b"), ("undo", "a"))

    def test_nothing_left(self):
        desk = Desk()
        self.refused(NothingLeft, desk, "undo")
        self.refused(NothingLeft, desk, "again")
        desk.tell("rule a 1")
        self.refused(NothingLeft, desk, "again")
        self.told(desk, ("undo", "no names"))
        self.refused(NothingLeft, desk, "undo")
        self.told(desk, ("again", "a"))
        self.refused(NothingLeft, desk, "again")

    def test_undo_and_again_are_not_undone(self):
        self.told(
            desk_after("rule a 1", "rule b 2"),
            ("undo", "a"),
            ("undo", "no names"),
            ("again", "a"),
            ("undo", "no names"),
            ("again", "a"),
            ("again", "a b"),
        )


class Asks(DeskCase):
    def test_names(self):
        desk = Desk()
        self.told(desk, ("names", "no names"))
        for name, wanted in [
            ("b", "b"), ("ab", "ab b"), ("a", "a ab b"), ("abc", "a ab abc b"), ("aa", "a aa ab abc b"),
            ("zzzzzzzz", "a aa ab abc b zzzzzzzz"), ("ba", "a aa ab abc b ba zzzzzzzz"),
        ]:
            desk.tell(f"rule {name} 1")
            self.told(desk, ("names", wanted))

    def test_keeps(self):
        self.told(
            desk_after("rule a 2 2 | 3 | 2 1", "rule o none", "rule n no heaps"),
            ("keeps a 2", "yes"),
            ("keeps a none", "yes"),
            ("keeps a 2 2", "no 0"),
            ("keeps a 3 2 2", "no 0"),
            ("keeps a 3 2 1", "no 1"),
            ("keeps a 2 1", "no 2"),
            ("keeps a 4 2", "yes"),
            (f"keeps a {GREAT} {GREAT} 3 1", "no 1"),
            ("keeps o none", "no 0"),
            ("keeps o 5", "no 0"),
            ("keeps n none", "yes"),
            (f"keeps n {GREAT}", "yes"),
        )

    def test_count(self):
        desk = desk_after("rule a 1 1 | 2 2", "rule n no heaps", "rule o none")
        self.told(desk, ("count n 0", "1"), ("count n 100", "190569292"), ("count o 100", "0"), ("count a 4", "2"))
        for number in (0, 1, 9, 24, 100, 399, 400):
            self.told(desk, (f"count a {number}", str(count_of(((1, 1), (2, 2)), number))))
        for number in (401, 1000, 999999999):
            self.refused(NoSum, desk, f"count a {number}")

    def test_list(self):
        desk = desk_after("rule a 1 1 | 2 2", "rule n no heaps", "rule o none")
        self.told(
            desk,
            ("list a 0", "none"),
            ("list a 4", "4 | 3 1"),
            ("list n 3", "3 | 2 1 | 1 1 1"),
            ("list o 0", "no partings"),
            ("list o 24", "no partings"),
        )
        wanted = " | ".join([heap_text(heap) for heap in kept_of(((1, 1), (2, 2)), 24)])
        self.told(desk, ("list a 24", wanted))
        for number in (25, 26, 400, 999999999):
            self.refused(NoSum, desk, f"list a {number}")

    def test_match(self):
        desk = desk_after("rule a 1 1 | 2 2", "rule b 2 | 4", "rule n no heaps")
        self.told(desk, ("match a b", "yes"), ("match b a", "yes"), ("match a a", "yes"), ("match n n", "yes"))
        for one, other, forth, back in [
            ("1", "2", "no 0 : 1 2", "no 0 : 2 1"),
            ("1 | 5", "1 | 7", "no 1 : 5 7", "no 1 : 7 5"),
            ("3 1 | 9 | 3 2", "3 1 | 9 | 4 1", "no 0 2 : 6 8", "no 0 2 : 8 6"),
            ("6 5 1 | 6 4 2 | 6 3 3", "6 5 1 | 6 4 2 | 5 4 2 1", "no 0 1 2 : 24 18", "no 0 1 2 : 18 24"),
            (f"{GREAT}", "none", f"no 0 : {GREAT} 0", f"no 0 : 0 {GREAT}"),
            ("1 | 2 | 3 | 4 | 5 | 6", "1 | 2 | 3 | 4 | 5 | 7", "no 5 : 6 7", "no 5 : 7 6"),
        ]:
            desk.tell(f"rule c {one}")
            desk.tell(f"rule d {other}")
            self.told(desk, ("match c d", forth), ("match d c", back))
        self.refused(NotSoMany, desk, "match a n")
        self.refused(NotSoMany, desk, "match n b")

    def test_send_and_steps(self):
        desk = desk_after("rule a 1 1 | 2 2 | 3 3", "rule b 2 | 4 | 6", "rule n no heaps")
        self.told(
            desk,
            ("send a b none", "none"),
            ("steps a b none", "2"),
            ("send a b 3 2", "3 1 1"),
            ("steps a b 3 2", "6"),
            ("send b a 3 1 1", "3 2"),
            ("steps b a 3 1 1", "6"),
            ("send a b 6 2 1", "3 3 1 1 1"),
            ("steps a b 6 2 1", "18"),
            ("send a a 6 2 1", "6 2 1"),
            ("steps a a 6 2 1", "2"),
            ("send n n 24", "24"),
            ("steps n n 23 1", "2"),
        )

    def test_send_and_steps_of_each_parting(self):
        one = "2 1 | 2 1 | 4"
        other = "3 | 3 | 2 2"
        desk = desk_after(f"rule a {one}", f"rule b {other}")
        sided = Beside(read_rule(one), read_rule(other))
        for number in (1, 5, 9, 12):
            for heap in kept_of(read_rule(one), number):
                text = heap_text(heap)
                self.told(
                    desk,
                    (f"send a b {text}", heap_text(end_of(sided, heap))),
                    (f"steps a b {text}", str(len(walk_of(sided, heap)))),
                )

    def test_steps_however_many(self):
        desk = desk_after("rule a 7 | 4 | 1 1 1 | 2 | 1 1 1 | 7", "rule b 7 | 2 2 | 3 | 1 1 | 3 | 7")
        self.told(desk, ("steps a b 3 3 3 3 3 3 3 3", "1674"))
        end = desk.tell("send a b 3 3 3 3 3 3 3 3")
        self.told(desk, (f"send b a {end}", "3 3 3 3 3 3 3 3"), (f"steps b a {end}", "1674"))

    def test_refusals_of_send_and_steps(self):
        desk = desk_after("rule a 1 1 | 2 2", "rule b 2 | 4", "rule c 2 | 5", "rule n no heaps")
        for word in ("send", "steps"):
            self.refused(NotSoMany, desk, f"{word} a n 1")
            self.refused(NotSoMany, desk, f"{word} n c {GREAT}")
            self.refused(Unmatched, desk, f"{word} a c 1", choice=(1,), one=4, other=5)
            self.refused(Unmatched, desk, f"{word} c a {GREAT}", choice=(1,), one=5, other=4)
            self.refused(Unmatched, desk, f"{word} a c 2 2")
            self.refused(NoSum, desk, f"{word} a b 25")
            self.refused(NoSum, desk, f"{word} a b {GREAT} 1 1")
            self.refused(NoSum, desk, f"{word} a b 23 1 1")
            self.refused(NotKept, desk, f"{word} a b 22 1 1", number=0)
            self.refused(NotKept, desk, f"{word} a b 2 2", number=1)
            self.refused(NotKept, desk, f"{word} b a 4 1", number=1)

    def test_each_line_that_asks_behind_each_deed(self):
        ahead = ["rule a 1 1 | 2 2", "rule b 2 | 4"]
        for lines in (
            ["rule a 1 1 | 2 2"], ["add a 9", "take a 2"], ["copy a a"], ["copy a c", "drop c"], ["drop a", "undo"],
            ["rule a 5", "undo", "again", "undo"], ["rule b 5", "copy a b", "rule b 2 | 4"],
        ):
            desk = desk_after(*ahead, *lines)
            self.told(
                desk,
                ("names", "a b"), ("show a", "1 1 | 2 2"), ("show b", "2 | 4"), ("keeps a 2 2", "no 1"),
                ("count a 4", "2"), ("list b 4", "3 1 | 1 1 1 1"), ("match a b", "yes"), ("send a b 3 2", "3 1 1"),
                ("steps a b 3 2", "6"),
            )


class NoLines(DeskCase):
    GOOD = [
        "rule a 1", "rule a 2 1 | 3", "rule a no heaps", "rule a none", "add a 1", "add a none", "take a 0", "copy a b",
        "drop a", "undo", "again", "names", "show a", "keeps a 1", "keeps a none", "count a 0", "list a 0",
        "match a b", "send a b 1", "steps a b 2 1",
    ]

    def ready(self):
        return desk_after("rule a 3 | 2 2", "rule b 3 | 2 2", "rule c 1", "undo")

    def test_the_lines_as_they_are(self):
        for line in self.GOOD:
            self.assertIs(type(self.ready().tell(line)), str)

    def test_a_blank_too_many_too_few_or_at_an_end(self):
        for line in self.GOOD:
            for at, sign in enumerate(line):
                if sign == " ":
                    self.refused_all([line[:at] + " " + line[at:]])
                    if line[at - 1:at + 2] != "2 1":
                        self.refused_all([line[:at] + line[at + 1:]])
            self.refused_all([" " + line, line + " ", line + "  "])

    def refused_all(self, lines):
        desk = self.ready()
        before = answers(desk)
        for line in lines:
            self.refused(NoLine, desk, line)
        self.assertEqual(answers(desk), before)
        self.told(desk, ("again", "a b c"))

    def test_other_signs_between(self):
        for line in self.GOOD:
            self.refused_all([line + "\n", "\n" + line, line + "\r", line + "\t", line + "\r\n", line + "\x00"])
            if " " in line:
                self.refused_all([line.replace(" ", sep) for sep in ("\t", "\n", "\u00a0", "_", ",")])

    def test_words_too_many_or_too_few(self):
        for line in self.GOOD:
            words = line.split(" ")
            if words[0] not in ("rule", "add", "keeps", "send", "steps"):
                self.refused_all([line + " a", line + " 1", line + " none"])
            if len(words) > 1:
                self.refused_all([words[0], words[0] + " "])
            for many in range(1, {"rule": 3, "send": 4, "steps": 4}.get(words[0], min(3, len(words)))):
                if many < len(words):
                    self.refused_all([" ".join(words[:many])])

    def test_no_such_word(self):
        self.refused_all([
            "", " ", "\n", "rul a 1", "rules a 1", "Rule a 1", "RULE a 1", "UNDO", "redo", "name", "shows a", "1", "none",
            "a", "a rule 1", "quit", "list", "list a", "undo 1", "undo undo", "again again", "names a", "show", "|",
        ])

    def test_names_that_are_none(self):
        for name in (
            "", "abcdefghi", "abcdefghij", "A", "aB", "a1", "1", "a-b", "a_b", "\u00e4", "a\u00df", "a.", "\u0430", "a|",
            "*", "0", "a\n",
        ):
            self.refused_all([
                f"rule {name} 1", f"add {name} 1", f"take {name} 0", f"copy {name} a", f"copy a {name}", f"drop {name}",
                f"show {name}", f"keeps {name} 1", f"count {name} 1", f"list {name} 1", f"match {name} a",
                f"match a {name}", f"send {name} a 1", f"send a {name} 1", f"steps {name} a 1", f"steps a {name} 1",
            ])

    def test_numbers_that_are_none(self):
        for number in (
            "", "00", "01", "0000", "007", "1000000000", "9999999999", "-1", "+1", "1.0", "1e1", "x", "1 2", "none",
            "\u0661", "\u00b2", "1_0", "0x1", "1\n", "0\n", "1 ",
        ):
            self.refused_all([f"take a {number}", f"count a {number}", f"list a {number}"])

    def test_numbers_of_nine_figures(self):
        desk = self.ready()
        self.refused(NoPlace, desk, "take a 999999999")
        self.refused(NoSum, desk, "count a 100000000")
        self.refused(NoSum, desk, "list a 999999999")

    def test_heaps_that_are_none(self):
        for heap in (
            "", "0", "1 2", "01", "2 0", "-1", "2  1", "2 1 ", " 2 1", "no", "None", "none 1", "1 none", "2,1", "2 | 1",
            "2|1", "no heaps", "9" * 61, "1 " * 60 + "1", "\u0661", "2\n1", "2 1\n", "none\n", "()", "x",
        ):
            self.refused_all([f"add a {heap}", f"keeps a {heap}", f"send a b {heap}", f"steps a b {heap}"])

    def test_heaps_of_sixty_parts_and_sixty_figures(self):
        desk = self.ready()
        sixty = " ".join(["1"] * 60)
        self.told(desk, (f"keeps a {sixty}", "yes"), (f"keeps a {GREAT}", "yes"), (f"add a {sixty}", f"3 | 2 2 | {sixty}"))

    def test_rules_that_are_none(self):
        for rule in (
            "", "|", " | ", "1 |", "| 1", "1|2", "1 |2", "1| 2", "1  | 2", "1 |  2", "1 | | 2", "1 || 2", "no", "heaps",
            "no heap", "no heaps ", "no  heaps", "no heaps | 1", "1 | no heaps", "1 2", "0", "1 | 0", "1 | 01", "none none",
            "1 | 2 | 3 | 4 | 5 | 6 | 7", "none | none | none | none | none | none | none", "1 | " + "9" * 61,
            "1 | 2\n", "1\n| 2", "\u0661",
        ):
            self.refused_all([f"rule a {rule}", f"rule new {rule}"])


class Refusals(DeskCase):
    def test_no_name(self):
        desk = desk_after("rule a 1", "rule b 2", "drop b")
        for line in (
            "add b 1", "take b 0", "copy b a", "drop b", "show b", "keeps b 1", "count b 1", "list b 1", "match b a",
            "match a b", "send b a 1", "send a b 1", "steps b a 1", "steps a b 1", "copy b b", "copy b c",
        ):
            self.refused(NoName, desk, line, name="b")

    def test_the_first_such_name_in_the_line(self):
        desk = desk_after("rule a 1")
        for line in ("match x y", "send x y 1", "steps x y 1", "match x a", "send a x 1", "copy x y", "match x x"):
            self.refused(NoName, desk, line, name="x")
        self.refused(NoName, desk, "match y x", name="y")
        self.refused(NoName, desk, "send zz a 1", name="zz")

    def test_names_that_begin_like_others(self):
        desk = desk_after("rule ab 1")
        self.refused(NoName, desk, "show a", name="a")
        self.refused(NoName, desk, "show abc", name="abc")
        self.told(desk, ("show ab", "1"))

    def test_no_line_ahead_of_no_name(self):
        for line in ("show x ", "add x 0", "take x 01", "count x -1", "send x y 1 2", "match x Y", "match x y z", "drop X"):
            self.refused(NoLine, Desk(), line)

    def test_no_name_ahead_of_the_others(self):
        desk = desk_after("rule a 1 | 2 | 3 | 4 | 5 | 6")
        self.refused(NoName, desk, "add x 1", name="x")
        self.refused(NoName, desk, "take x 9", name="x")
        self.refused(NoName, desk, "count x 999999999", name="x")
        self.refused(NoName, desk, "list x 25", name="x")
        self.refused(NoName, desk, "match a x", name="x")
        self.refused(NoName, desk, f"send a x {GREAT}", name="x")

    def test_a_seventh_heap(self):
        desk = desk_after("rule a 1 | 2 | 3 | 4 | 5", "add a 6")
        self.refused(NoRule, desk, "add a 7")
        self.refused(NoRule, desk, "add a none")
        self.refused(NoLine, desk, "add a 0")
        self.told(desk, ("show a", "1 | 2 | 3 | 4 | 5 | 6"), ("take a 0", "2 | 3 | 4 | 5 | 6"))
        self.told(desk, ("add a 7", "2 | 3 | 4 | 5 | 6 | 7"))

    def test_no_place(self):
        desk = desk_after("rule a 1 | 2", "rule n no heaps")
        for number in (2, 3, 6, 999999999):
            self.refused(NoPlace, desk, f"take a {number}")
        self.refused(NoPlace, desk, "take n 0")
        self.told(desk, ("show a", "1 | 2"), ("take a 1", "1"))
        self.refused(NoPlace, desk, "take a 1")

    def test_what_was_refused_changes_nothing(self):
        refused = [
            "", "rule a 0", "rule a 1 | 2 | 3 | 4 | 5 | 6 | 7", "add f 7", "add x 1", "take a 2", "take x 0", "copy x a",
            "copy x y", "drop x", "count a 401", "list a 25", "match a f", "send a f 1", "send a c 1", "send a b 25",
            "send a b 2 2", "steps a b 1 1", "show x", "undo ", "again ",
        ]
        ready = ["rule a 1 1 | 2 2", "rule b 2 | 4", "rule c 9 | 9", "rule f 1 | 2 | 3 | 4 | 5 | 6", "rule g 1", "drop g"]
        for line in refused:
            desk = desk_after(*ready, "undo")
            before = answers(desk)
            self.assertRaises(ShutError, desk.tell, line)
            self.assertEqual(answers(desk), before)
            self.told(desk, ("again", "a b c f"))
            self.refused(NothingLeft, desk, "again")
            self.assertRaises(ShutError, desk.tell, line)
            self.told(desk, ("undo", "a b c f g"), ("undo", "a b c f"), ("undo", "a b c"))

    def test_undo_and_again_refused_change_nothing(self):
        desk = desk_after("rule a 1", "undo")
        self.refused(NothingLeft, desk, "undo")
        self.told(desk, ("again", "a"))
        self.refused(NothingLeft, desk, "again")
        self.told(desk, ("undo", "no names"))

    def test_two_desks_have_nothing_in_common(self):
        one = desk_after("rule a 1")
        other = Desk()
        self.told(other, ("names", "no names"))
        self.refused(NothingLeft, other, "undo")
        other.tell("rule a 2")
        other.tell("undo")
        self.told(one, ("show a", "1"))
        self.refused(NothingLeft, one, "again")
        self.told(one, ("undo", "no names"))
        self.told(other, ("again", "a"), ("show a", "2"))
        self.told(Desk(), ("names", "no names"))


if __name__ == "__main__":
    unittest.main()
