import re
import unittest

from postvote.benches import Bench
from postvote.errors import Busy, VoteError
from postvote.margins import margin
from postvote.shells import Shell, list_text
from postvote.texts import assignment_text, parse_assignment
from postvote.vectors import reserve_range
from tests.support import (
    BIG, ODD_VALUES, crowded_instance, generator, many_crowded, plain, some_assignment, some_edit, some_instance,
)

I = ((1, 1), (((0, 1), 2),))
J = ((1, 1), (((0, 1), 3),))
K = ((1, 2, 1), (((0, 1), 2), ((0, 2), 2)))
FULL = ((1, 2, 3, 4, 5, 6), (((0, 5), 2),) * 10)
N = "(0|[1-9][0-9]{0,12})"
LIST = "(-|(?:0|[1-9][0-9]{0,12})(?:,(?:0|[1-9][0-9]{0,12}))*)"
EDITS = {
    f"capacity {N} {N}": "set_capacity", f"count {N} {N}": "set_count", f"list {N} {LIST}": "set_list",
    f"group {LIST} {N}": "add_group", f"ungroup {N}": "remove_group", f"post {N}": "add_post",
    f"unpost {N}": "remove_post", "undo": "undo",
}
COMMANDS = dict(zip(EDITS.values(), ("capacity", "count", "list", "group", "ungroup", "post", "unpost")))
SIGNS = ("0", "1", "9", " ", ",", "-", "+", "\n", "x", "L", "_")
LINES = (
    "capacity 0 3", "count 0 3", "list 0 1,0", "list 0 -", "group 1,0 4", "group - 2", "ungroup 0", "post 10", "unpost 1",
    "undo", "verdict", "vector", "range 0", "margin 1,1,0",
)


def list_word(posts):
    return ",".join(str(post) for post in posts) if posts else "-"


def edit_line(edit):
    """The command for an edit."""
    words = [list_word(value) if isinstance(value, tuple) else str(value) for value in edit[1:]]
    return " ".join([COMMANDS[edit[0]], *words])


def read_values(pattern, texts):
    """What the groups of a pattern stand for."""
    found = []
    for kind, text in zip(re.findall(r"\(-|\(0", pattern.replace("(?:", "")), texts):
        if kind == "(-":
            found.append(() if text == "-" else tuple(int(part) for part in text.split(",")))
        else:
            found.append(int(text))
    return found


def asked(bench, line):
    """The answer, read off DOC.md; errors propagate."""
    for pattern, method in EDITS.items():
        match = re.fullmatch(pattern, line)
        if match:
            return "ok " + str(getattr(bench, method)(*read_values(pattern, match.groups())))
    if line == "verdict":
        word, *rest = bench.verdict()
        if word == "unbeaten":
            return "unbeaten " + assignment_text(rest[0])
        return " ".join(["shortage", list_word(rest[0]), list_word(rest[1])])
    if line == "vector":
        return " ".join(map(str, bench.vector()))
    if re.fullmatch("range " + N, line):
        return " ".join(map(str, reserve_range(bench.instance(), int(line[6:]))))
    if line[:7] == "margin ":
        return str(margin(bench.instance(), parse_assignment(bench.instance(), line[7:])))
    return "unknown command"


def expected(bench, line):
    if type(line) is not str:
        return "unknown command"
    try:
        return asked(bench, line)
    except (VoteError, LookupError) as error:
        return "error " + type(error).__name__


def near_lines(line):
    for at in range(len(line) + 1):
        for sign in SIGNS:
            yield line[:at] + sign + line[at:]
            yield line[:at] + sign + line[at + 1:]
        yield line[:at] + line[at + 1:]


class ShellCase(unittest.TestCase):
    def check(self, instance, lines):
        """The lines, one after the other, are answered as the bench itself answers; returns the answers."""
        bench, other = Bench(instance), Bench(instance)
        shell = Shell(bench)
        answers = []
        for line in lines:
            answers.append(shell.execute(line))
            self.assertIs(type(answers[-1]), str)
            self.assertEqual(answers[-1], expected(other, line), (instance, line))
            self.assertEqual(plain(bench.instance()), plain(other.instance()))
            self.assertEqual(plain(bench.edits()), plain(other.edits()))
        return answers


class Commands(ShellCase):
    def test_example(self):
        shell = Shell(Bench(I))
        lines = ("verdict", "count 0 3", "verdict", "margin 1,1,1", "count 5 1")
        self.assertEqual(
            [shell.execute(line) for line in lines], ["unbeaten 1,1,0", "ok 1", "shortage 0 1", "1", "error NoGroup"]
        )

    def test_by_hand(self):
        lines = (
            "capacity 0 3", "count 0 5", "list 0 1,0", "group - 2", "group 1 7", "post 9", "list 2 2", "unpost 0",
            "ungroup 1", "verdict", "vector", "range 0", "range 1", "range 2", "margin 2,3 7,0", "undo", "undo",
        )
        answers = self.check(I, lines)
        self.assertEqual(answers, [
            "ok 1", "ok 2", "ok 3", "ok 4", "ok 5", "ok 6", "ok 7", "ok 8", "ok 9", "unbeaten 1,4 7,0", "4 0", "4 4", "0 0",
            "error NoGroup", "error BadText", "ok 8", "ok 7",
        ])

    def test_shortages_in_words(self):
        self.assertEqual(self.check(J, ["verdict", "vector", "range 0", "range 1"]), [
            "shortage 0 1", "error NoUnbeaten", "error NoUnbeaten", "error NoGroup",
        ])
        both = ((1, 1, 1, 1), (((0, 2), 3), ((1, 3), 3), ((0, 3), 3), ((1, 2), 3)))
        self.assertEqual(self.check(both, ["verdict"])[0][:9], "shortage ")
        self.assertEqual(self.check(((2, 1), (((0, 1), 4),)), ["verdict"]), ["shortage 0 1"])

    def test_a_list_in_words(self):
        # A shortage has always crowded posts and reserves, but the answer is defined without them, too.
        self.assertEqual([list_text(()), list_text((0,)), list_text((0, 3, 5))], ["-", "0", "0,3,5"])

    def test_each_error(self):
        cases = (
            (I, "capacity 2 1", "NoPost"), (I, "capacity 2 0", "NoPost"), (I, "capacity 0 0", "BadNumber"),
            (I, "capacity 0 1000000000001", "BadNumber"), (I, "count 1 1", "NoGroup"), (I, "count 1 0", "NoGroup"),
            (I, "count 0 0", "BadNumber"), (I, "list 1 0", "NoGroup"), (I, "list 1 9", "NoGroup"), (I, "list 0 2", "BadList"),
            (I, "list 0 0,0", "BadList"), (I, "group 2 1", "BadList"), (I, "group 0,0 0", "BadList"), (I, "group 0 0", "BadNumber"),
            (FULL, "group 0 1", "TooMany"), (FULL, "group 0 0", "BadNumber"), (FULL, "group 6 0", "BadList"),
            (I, "ungroup 1", "NoGroup"), (I, "ungroup 0", "LastOne"), (I, "post 0", "BadNumber"), (FULL, "post 0", "BadNumber"),
            (FULL, "post 1", "TooMany"), (I, "unpost 2", "NoPost"), (((1,), (((), 1),)), "unpost 0", "LastOne"),
            (((1,), (((), 1),)), "unpost 1", "NoPost"), (I, "undo", "NothingToUndo"), (J, "vector", "NoUnbeaten"),
            (I, "range 1", "NoGroup"), (J, "range 1", "NoGroup"), (J, "range 0", "NoUnbeaten"), (I, "margin 1,1", "BadText"),
            (I, "margin 2,0,0", "BadText"), (I, "margin ", "BadText"), (I, "margin  1,1,0", "BadText"),
            (I, "margin 1,1,0 ", "BadText"), (I, "margin margin 1,1,0", "BadText"), (I, "margin x\ny", "BadText"),
        )
        for instance, line, name in cases:
            self.assertEqual(self.check(instance, [line]), ["error " + name], line)

    def test_too_many_edits(self):
        bench = Bench(I)
        shell = Shell(bench)
        for version in range(1, 61):
            self.assertEqual(shell.execute(f"capacity 0 {version}"), f"ok {version}")
        wrong = ("capacity 9 9", "count 9 0", "list 9 9", "group 9 0", "ungroup 0", "post 0", "unpost 9", "post 1")
        for line in wrong:
            self.assertEqual(shell.execute(line), "error TooManyEdits")
        self.assertEqual(len(bench), 60)
        self.assertEqual(shell.execute("undo"), "ok 59")
        self.assertEqual(shell.execute("post 1"), "ok 60")

    def test_every_near_line(self):
        known = unknown = 0
        for instance in (I, J):
            for line in LINES:
                self.check(instance, [line])
                for other in near_lines(line):
                    answer = self.check(instance, [other])[0]
                    known += answer != "unknown command"
                    unknown += answer == "unknown command"
        self.assertGreater(known, 300)
        self.assertGreater(unknown, 2000)

    def test_numbers_of_many_digits(self):
        for digits in (12, 13, 14, 15, 30, 500):
            for number in ("1" + "0" * (digits - 1), "9" * digits, "0" * digits):
                lines = (
                    f"capacity 0 {number}", f"capacity {number} 1", f"count 0 {number}", f"post {number}", f"range {number}",
                    f"list 0 {number}", f"list 0 0,{number}", f"group - {number}", f"group {number} 1", f"ungroup {number}",
                    f"unpost {number}",
                )
                for line in lines:
                    answer = self.check(I, [line])[0]
                    self.assertEqual(answer == "unknown command", digits > 13 or number[0] == "0", line)
        self.assertEqual(self.check(I, ["post 1000000000000"]), ["ok 1"])
        self.assertEqual(self.check(I, ["post 9999999999999"]), ["error BadNumber"])
        self.assertEqual(self.check(I, ["post 10000000000000"]), ["unknown command"])

    def test_unknown_commands(self):
        lines = (
            "", " ", "  ", "\n", "margin", "Margin 1,1,0", " margin 1,1,0", "margin\t1,1,0", "margin\n1,1,0", "marginal 1", "undo ",
            " undo", "undo 1", "undo\n", "UNDO", "verdict ", "verdict 0", "vector 0", "vector ", "range", "range ", "range 0 0",
            "range -1", "range 00", "range +0", "range 0,1", "capacity", "capacity 0", "capacity 0 1 2", "capacity 0  1",
            "capacity  0 1", "capacity 0 1 ", "capacity 0 -1", "capacity 0 +1", "capacity 0 01", "capacity 00 1", "capacity 0 1.0",
            "capacity 0 1_0", "capacity 0,1", "count 0 a", "list 0", "list 0 ", "list 0 ,", "list 0 0,", "list 0 ,0", "list 0 0,,1",
            "list 0 0 1", "list 0 -,0", "list 0 0,-", "list 0 --", "list - 0", "list 0 00", "list 0 0,01", "list 0 +0",
            "group 0", "group 1 0 3", "group 0, 1", "group -1 1", "group 0 -", "ungroup", "ungroup -", "post", "post -", "post 1,2",
            "unpost", "unpost 0 0", "set_capacity 0 1", "run", "edits", "words", "help", "instance", "capacity\n0 1",
        )
        for line in lines:
            self.assertEqual(self.check(K, [line]), ["unknown command"], line)

    def test_values_that_are_not_texts(self):
        bench = Bench(I)
        shell = Shell(bench)
        for value in (*ODD_VALUES, b"undo", ["undo"], ("undo",), {"undo": 1}, bench):
            if not isinstance(value, str):
                self.assertEqual(shell.execute(value), "unknown command")
        self.assertEqual(len(bench), 0)

    def test_any_text(self):
        for value in ODD_VALUES:
            if isinstance(value, str):
                self.check(I, [value, "margin " + value, "post " + value, "list 0 " + value])
        self.assertEqual(self.check(I, ["x" * 2000, "1" * 2000, " " * 2000, "margin " + "1," * 900]), [
            "unknown command", "unknown command", "unknown command", "error BadText",
        ])


class Scripts(ShellCase):
    def test_scripts(self):
        rng = generator(180)
        words = {}
        for turn in range(60):
            instance = rng.choice((some_instance, crowded_instance))(rng, rng.choice((4, BIG)))
            current = Bench(instance)
            lines = []
            for step in range(15):
                edit = some_edit(rng, current.instance())
                margin_line = "margin " + assignment_text(some_assignment(rng, current.instance()))
                lines.append(rng.choice((
                    edit_line(edit), edit_line(edit), "undo", "verdict", "vector", f"range {rng.randint(0, 10)}", margin_line,
                )))
                expected(current, lines[-1])
            for answer in self.check(instance, lines):
                words[answer.split(" ")[0]] = words.get(answer.split(" ")[0], 0) + 1
        for word in ("ok", "error", "unbeaten", "shortage"):
            self.assertGreater(words[word], 20)

    def test_questions(self):
        rng = generator(181)
        for instance in many_crowded(rng, 150):
            lines = ["verdict", "vector", *[f"range {group}" for group in range(len(instance[1]) + 1)]]
            lines.append("margin " + assignment_text(some_assignment(rng, instance)))
            answers = self.check(instance, lines)
            self.assertEqual(answers, self.check(instance, lines))

    def test_edits_on_the_bench_itself(self):
        bench = Bench(I)
        shell = Shell(bench)
        self.assertEqual(shell.execute("count 0 3"), "ok 1")
        self.assertEqual(bench.set_capacity(1, 2), 2)
        self.assertEqual(shell.execute("verdict"), "unbeaten 1,2,0")
        self.assertEqual(shell.execute("post 4"), "ok 3")
        self.assertEqual(bench.undo(), 2)
        self.assertEqual(shell.execute("undo"), "ok 1")
        self.assertEqual(bench.instance(), J)
        self.assertEqual(Shell(bench).execute("undo"), "ok 0")
        self.assertEqual(shell.execute("undo"), "error NothingToUndo")

    def test_two_shells_on_one_bench(self):
        bench = Bench(I)
        one, two = Shell(bench), Shell(bench)
        self.assertEqual([one.execute("post 1"), two.execute("post 2"), one.execute("undo")], ["ok 1", "ok 2", "ok 1"])

    def test_during_on_step(self):
        bench = Bench(I)
        shell, other = Shell(bench), Shell(Bench(I))
        seen = []

        def step(one):
            wrong = ("capacity 9 0", "count 9 0", "list 9 9", "group 9 0", "ungroup 9", "post 0", "unpost 9", "undo", "post 1")
            for line in wrong:
                self.assertEqual(shell.execute(line), "error Busy")
            for line in ("verdict", "vector", "range 0", "range 9", "margin 1,1,1", "margin", "redo", None):
                seen.append(shell.execute(line))
            self.assertEqual(other.execute("post 1"), f"ok {len(one)}")

        self.assertEqual(bench.run([("set_count", 0, 3), ("set_capacity", 1, 2)], on_step=step), 2)
        self.assertEqual(seen, [
            "shortage 0 1", "error NoUnbeaten", "error NoUnbeaten", "error NoGroup", "1", "unknown command", "unknown command",
            "unknown command", "unbeaten 1,2,0", "2", "2 2", "error NoGroup", "1", "unknown command", "unknown command",
            "unknown command",
        ])
        self.assertEqual(shell.execute("undo"), "ok 1")

    def test_the_class_has_its_method(self):
        self.assertIn("execute", vars(Shell))
        self.assertTrue(issubclass(Busy, VoteError))
