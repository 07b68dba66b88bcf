"""L4 and L5: shells, and what they answer to lines."""

import itertools
import random
import re
import unittest

from tests.helper import ODD_VALUES, changed_texts, outcome, plain_has, returned
from tornreads.always import always_sure
from tornreads.benches import Bench
from tornreads.countertexts import value_text
from tornreads.errors import TornError, Unfit
from tornreads.excess import worst_beyond, worst_short
from tornreads.faces import look_text, read_face, read_look, read_row
from tornreads.keeping import fewest_kept
from tornreads.ladders import ladder_error, ladder_of
from tornreads.mending import fewest_puts
from tornreads.shells import Shell

NUMBER = "(0|[1-9][0-9]{0,2})"
LINES = (
    "face .*", "look .*", "plan .*", "done", "undo", "redo", "show", "now", "beyond", "short", "always",
    "show " + NUMBER, "window " + NUMBER, "sure " + NUMBER, "told " + NUMBER, "beyond " + NUMBER, "short " + NUMBER,
    "ladder (down|up|mirror)", "mend (down|up|both|mirror)", "keep (down|up|both|mirror)",
)
OF_PLAN = ("ladder .*", "beyond", "short", "always", "mend .*", "keep .*")
ASKS = tuple(
    ["show", "now", "beyond", "short", "always"]
    + [f"{word} {k}" for word in ("show", "window", "sure", "told", "beyond", "short") for k in (0, 1, 2, 12, 999)]
    + ["ladder " + way for way in ("down", "up", "mirror")]
    + [f"{word} {want}" for word in ("mend", "keep") for want in ("down", "up", "both", "mirror")]
)
BEGUN = ("face high:10 low:10", "look high=3", "look low=9", "done", "look high=4", "look low=2")
ODD_LINES = (
    "", " ", "Done", "done ", " done", "done done", "undo 1", "redo ", "now ", "now 0", "show ", "show  0", "show 00",
    "show 01", "show 1000", "show -1", "show +1", "show x", "show 0 ", "show 0 1", "show 1.0", "window", "window ",
    "window 00", "window 1000", "sure", "sure 0001", "sure one", "told", "told ", "told 1 1", "beyond ", "beyond 00",
    "beyond down", "short ", "short 1000", "short 09", "always ", "always down", "always 0", "ladder", "ladder ",
    "ladder both", "ladder  up", "ladder up ", "ladder Up", "ladder 0", "mend", "mend ", "mend all", "mend up down",
    "keep", "keep ", "keep 1", "keep mirror ", "face", "look", "plan", "Face h:2", "face\nh:2", "look\n", "faces h:2",
    "what", "no face", "done\n", "\ndone", "done\x00", "show\t0", "exit", "face:h", "plans high", "version 0", "say",
)


def is_plain_line(line):
    return any(re.fullmatch(pattern, line, re.DOTALL) for pattern in LINES)


class PlainShell:
    """What a shell has to answer, line by line, each answer by one expression."""

    def __init__(self):
        self.face = self.bench = self.plan = None

    def say(self, line):
        if not isinstance(line, str) or not is_plain_line(line):
            return "what"
        word, _, rest = line.partition(" ")
        if self.face is None and word != "face":
            return "no face"
        if self.plan is None and any(re.fullmatch(pattern, line) for pattern in OF_PLAN):
            return "no plan"
        try:
            return self.answer(line, word, rest)
        except TornError as error:
            return "error " + error.__class__.__name__

    def texts(self, numbers):
        return " ".join([value_text(self.face[1], number) for number in numbers])

    def looks(self, reading):
        return "; ".join([look_text(self.face, *look) for look in zip(*reading)]) or "none"

    def answer(self, line, word, rest):
        bench = self.bench
        if word == "face":
            face = read_face(rest)
            self.face, self.bench, self.plan = face, Bench(face[1]), None
            return "version 0"
        if word == "plan":
            self.plan = read_row(self.face, rest)
            return "reads %d" % len(self.plan)
        if word == "look":
            return "version %d" % bench.look(*read_look(self.face, rest))
        if word in ("done", "undo", "redo"):
            return "version %d" % getattr(bench, word)()
        if line in ("beyond", "short"):
            return str({"beyond": worst_beyond, "short": worst_short}[word](self.face[1], self.plan))
        if line == "always":
            return "yes" if always_sure(self.face[1], self.plan) else "no"
        if line == "show":
            return self.looks(bench.opened)
        if line == "now":
            return self.texts(bench.now())
        if word in ("ladder", "mend", "keep"):
            return None
        if word in ("told", "beyond", "short"):
            told = getattr(bench, word)(int(rest))
            return self.texts([told]) if word == "told" else str(told)
        if int(rest) >= len(bench.log):
            raise Unfit()
        if word == "show":
            return self.looks(bench.log[int(rest)])
        pair = (bench.windows() if word == "window" else bench.sures())[int(rest)]
        return "none" if pair is None else self.texts(pair)


def told(lines):
    """A shell to which lines were said."""
    shell = Shell()
    for line in lines:
        shell.say(line)
    return shell


def all_answers(shell):
    return [shell.say(line) for line in ASKS]


def behind(shell):
    """Answers, and those on the way back through all edits and forward again; this changes shell."""
    found = all_answers(shell)
    for move in ("undo", "redo"):
        answer = shell.say(move)
        while answer.startswith("version") and len(found) < 300:
            found.append((answer, all_answers(shell)))
            answer = shell.say(move)
        found.append(answer)
    return found


class ShellTest(unittest.TestCase):

    def check(self, shell, plain, line):
        came, due = outcome(shell.say, line), plain.say(line)
        if due is None:
            self.judge(plain.face, plain.plan, line, shell.say(line))
        else:
            self.assertEqual(came, returned(due), line)
        return came[1]

    def judge(self, face, plan, line, answer):
        """Whether the answer to "ladder", "mend" or "keep" is one that will do."""
        word, _, want = line.partition(" ")
        counter = face[1]
        if word == "ladder":
            if answer == "none":
                self.assertIsNone(ladder_of(counter, plan, want))
            else:
                self.assertIsNone(ladder_error(counter, plan, want, tuple(map(int, answer.split(" ")))))
            return
        if answer == "error TooMany":
            self.assertEqual(word, "mend")
            self.assertGreater(len(plan) + 2 * len(counter), 40)
            return
        if word == "mend":
            many, row = re.fullmatch("([0-9]+): (.*)", answer).groups()
            row = read_row(face, row)
            self.assertEqual(int(many), fewest_puts(counter, plan, want))
            self.assertEqual(len(row), len(plan) + int(many))
            self.assertTrue(plain_has(counter, row, want))
            self.assertTrue(self.comes_of(plan, row))
            return
        if answer == "none":
            self.assertIsNone(fewest_kept(counter, plan, want))
            return
        many, part = re.fullmatch("([0-9]+): (.*)", answer).groups()
        part = [int(number) for number in part.split(" ")]
        self.assertEqual(int(many), fewest_kept(counter, plan, want))
        self.assertEqual(part, sorted(set(part)))
        self.assertEqual(len(part), int(many))
        self.assertTrue(plain_has(counter, tuple([plan[read] for read in part]), want))

    def comes_of(self, plan, row):
        """Whether row is plan with reads of one place each put in."""
        if row == ():
            return plan == ()
        return (plan != () and row[0] == plan[0] and self.comes_of(plan[1:], row[1:])) or (
            len(row[0]) == 1 and self.comes_of(plan, row[1:]))

    def test_each_kind_of_line(self):
        for lines in ((), BEGUN[:1], BEGUN, BEGUN + ("plan high low",), BEGUN + ("done", "plan low high low"),
                      ("face b:2 a:3", "plan b a b", "look b=1 a=2", "done"), ("face a:7", "plan a a", "look a=0"),
                      ("face c:3 b:3 a:2", "plan c+b a c b", "look c=0", "look b=0 a=0", "look c=1", "done")):
            for line in ASKS + ("done", "undo", "redo", "look high=5", "plan low", "face x:9", "plan x", "face x", "look "):
                shell, plain = Shell(), PlainShell()
                for said in lines:
                    self.check(shell, plain, said)
                self.check(shell, plain, line)
                self.check(shell, plain, line)

    def test_odd_lines(self):
        for lines in ((), BEGUN, BEGUN + ("plan high low",)):
            shell = told(lines)
            for line in ODD_LINES + tuple([value for value in ODD_VALUES if not isinstance(value, str)]) + (
                    Bench((2, 2)), shell, b"done", ["done"], ("done",)):
                self.assertEqual(outcome(shell.say, line), returned("what"), line)

    def test_changed_lines(self):
        for line in ("done", "undo", "show", "show 10", "window 9", "told 999", "beyond 0", "ladder up", "keep both",
                     "mend down", "always", "now"):
            for changed in changed_texts(line, " 01x\n"):
                due = is_plain_line(changed)
                self.assertEqual(Shell().say(changed) != "what", due, changed)
                self.assertEqual(told(BEGUN).say(changed) != "what", due, changed)

    def test_numbers(self):
        shells = Shell(), told(BEGUN)
        for word in ("show", "window", "sure", "told", "beyond", "short"):
            for number in list(range(1000)) + [1000, 1001, 9999, 10 ** 9]:
                due = number < 1000
                self.assertEqual(shells[0].say(f"{word} {number}"), "no face" if due else "what")
                answer = shells[1].say(f"{word} {number}")
                self.assertEqual(answer == "what", not due)
                self.assertEqual(answer == "error Unfit", due and number > 0, (word, number))

    def test_no_face(self):
        for line in ASKS + ("done", "undo", "redo", "look high=3", "look ", "plan high", "plan ", "plan x  y"):
            self.assertEqual(Shell().say(line), "no face", line)
        for line in ("face ", "face h", "face h:1", "face h:2 h:2", "face  h:2", "face h:2 "):
            shell = Shell()
            self.assertEqual(shell.say(line), "error BadText", line)
            self.assertEqual(shell.say("now"), "no face")
        self.assertEqual(Shell().say("face h:2"), "version 0")

    def test_no_plan(self):
        for lines in (BEGUN[:1], BEGUN, BEGUN + ("plan ",), BEGUN + ("plan low", "face a:5")):
            shell = told(lines)
            for line in ("beyond", "short", "always") + tuple([line for line in ASKS if line[:4] in ("ladd", "mend", "keep")]):
                self.assertEqual(shell.say(line), "no plan", line)
            for line in ("show", "now", "beyond 0", "short 0", "told 0", "window 0", "sure 0"):
                self.assertNotEqual(shell.say(line), "no plan")

    def test_random_lines(self):
        pick = random.Random(1)
        met = set()
        faces = ("face high:10 low:10", "face c:3 b:2 a:3", "face b:2 a:2", "face a:5", "face h:24 m:60 s:60")
        for number in range(150):
            shell, plain = Shell(), PlainShell()
            face = faces[number % len(faces)]
            names = re.findall("[a-z]+(?=:)", face)
            if number % 9:
                self.check(shell, plain, face)
            for _ in range(60):
                words = [pick.choice((names[0], names[-1], names[-1] + "=1", names[0] + "=1", names[0] + "=0", "+".join(names)))
                         for _ in range(pick.randrange(1, 4))]
                line = pick.choice((
                    "look " + " ".join([name + "=" + pick.choice("0123") for name in names if pick.randrange(2)]),
                    "look " + pick.choice(words), "look " + pick.choice(words), "done", "done", "undo", "redo",
                    "plan " + " ".join(words), pick.choice(ASKS), pick.choice(ASKS), pick.choice(ASKS),
                    pick.choice(ODD_LINES)))
                if pick.randrange(60) == 0:
                    line = pick.choice(faces)
                answer = self.check(shell, plain, line)
                met.update([answer] if "error" in answer or " " not in answer else [])
        for kind in ("'error BadText'", "'error Unfit'", "'error NoRun'", "'error NothingToUndo'", "'what'", "'none'"):
            self.assertIn(kind, met)

    def test_each_class_of_error(self):
        begun = told(BEGUN)
        self.assertEqual(begun.say("look high=3"), "error NoRun")
        self.assertEqual(begun.say("look high=10"), "error BadText")
        self.assertEqual(begun.say("redo"), "error NothingToUndo")
        self.assertEqual(told(BEGUN[:1]).say("undo"), "error NothingToUndo")
        self.assertEqual(told(BEGUN[:1]).say("done"), "error Unfit")
        self.assertEqual(told(BEGUN[:1]).say("now"), "error Unfit")
        self.assertEqual(told(BEGUN[:1] + ("plan low",)).say("beyond"), "error Unfit")
        self.assertEqual(told(BEGUN[:1] + ("plan low",)).say("short"), "error Unfit")
        self.assertEqual(told(("face b:2 a:2", "plan b a b")).say("always"), "error Unfit")
        many = told(BEGUN[:1] + ("plan " + " ".join(["low"] * 40),))
        for want in ("down", "up", "both", "mirror"):
            self.assertEqual(many.say("mend " + want), "error TooMany")
        self.assertEqual(told(BEGUN[:1] + ("plan " + " ".join(["low"] * 39),)).say("mend down"), "1: high" + " low" * 39)
        full = told(BEGUN[:1] + ("look low=1",) * 40)
        self.assertEqual(full.say("look low=1"), "error Unfit")
        self.assertEqual([full.say("done")] + [full.say("look low=1") for _ in range(19)][-1:], ["version 41", "version 60"])
        self.assertEqual([full.say("look low=1"), full.say("done")], ["error TooManyEdits", "error TooManyEdits"])
        self.assertEqual(told(BEGUN[:1] + ("look low=1", "done") * 12).say("look low=1"), "error Unfit")

    def test_of_readings_that_are_not_closed(self):
        shell = told(BEGUN)
        for word in ("show", "window", "sure", "told", "beyond", "short"):
            self.assertNotIn("error", shell.say(word + " 0"))
            for k in (1, 2, 999):
                self.assertEqual(shell.say(f"{word} {k}"), "error Unfit")
        one = told(("face high:10 low:10", "look low=1", "done"))
        self.assertEqual([one.say(f"{word} 0") for word in ("told", "beyond", "short")], ["error Unfit"] * 3)
        self.assertEqual([one.say(f"{word} 0") for word in ("show", "sure", "window")], ["low=1", "none", "0:1 9:1 0:1 9:1"])

    def test_answers(self):
        shell = told(("face h:24 m:60 s:60", "look h=10", "look m=59", "look s=0", "done", "plan s m h"))
        self.assertEqual([shell.say(line) for line in (
            "show 0", "told 0", "beyond 0", "short 0", "window 0", "sure 0", "now", "show", "beyond", "short",
            "always", "ladder up", "ladder down", "mend mirror", "mend up", "keep up", "keep both")], [
            "h=10; m=59; s=0", "10:59:00", "0", "3599", "10:00:00 10:59:59 10:59:00 23:59:00", "none", "10:59:00 23:59:00",
            "none", "3599", "0", "no", "0 1 2", "none", "2: h m s m h", "0: s m h", "3: 0 1 2", "none"])
        lone = told(("face a:1000", "look a=7", "plan a"))
        self.assertEqual([lone.say(line) for line in ("now", "show", "always", "mend both", "keep mirror", "ladder mirror")],
                         ["007 007", "a=7", "yes", "0: a", "1: 0", "0"])

    def test_lines_that_tell_an_error_or_only_ask_change_nothing(self):
        lines = BEGUN + ("done", "undo", "undo", "plan high low high")
        due = behind(told(lines))
        wrong = ("look high=2", "look high=10", "look ", "look low=3 high=4", "plan ", "plan x", "plan high low+high",
                 "face ", "face a:1", "face a:5 a:5", "told 1", "window 7", "mend down x") + ODD_LINES
        self.assertEqual({told(lines).say(line) for line in wrong}, {"error NoRun", "error BadText", "error Unfit", "what"})
        shell = told(lines)
        for line in wrong + ASKS + (None, 5, ["done"]):
            shell.say(line)
        self.assertEqual(behind(shell), due)
        for line in wrong + ASKS:
            shell = told(lines)
            first = shell.say(line)
            self.assertEqual(shell.say(line), first)
            self.assertEqual(all_answers(shell), due[:len(ASKS)], line)
        closed = told(BEGUN + ("done",))
        before = all_answers(closed)
        for line in ("done", "redo"):
            self.assertIn("error", closed.say(line))
            self.assertEqual(all_answers(closed), before)

    def test_a_new_face_amid(self):
        shell = told(BEGUN + ("plan high low",))
        self.assertEqual(shell.say("face a:5 b:7"), "version 0")
        self.assertEqual(behind(shell), behind(told(("face a:5 b:7",))))
        self.assertEqual([shell.say(line) for line in ("show", "undo", "redo", "always", "now", "show 0", "look high=3")], [
            "none", "error NothingToUndo", "error NothingToUndo", "no plan", "error Unfit", "error Unfit", "error BadText"])
        self.assertEqual([shell.say("look a=3"), shell.say("face a:5 b:7"), shell.say("show")], ["version 1", "version 0", "none"])

    def test_a_new_plan(self):
        shell = told(BEGUN + ("plan high low",))
        self.assertEqual([shell.say(line) for line in ("always", "plan high low high", "always", "plan high+low", "always")],
                         ["no", "reads 3", "yes", "reads 1", "yes"])
        self.assertEqual([shell.say(line) for line in ("plan x", "always", "show")], ["error BadText", "yes", "high=4; low=2"])

    def test_two_shells_answer_alike(self):
        lines = BEGUN + ("plan low high", "undo", "x", "look low=3", "done", "look high=9") + ASKS
        one, other = Shell(), Shell()
        self.assertEqual([one.say(line) for line in lines], [other.say(line) for line in lines])
        self.assertEqual([one.say(line=line) for line in lines], [other.say(line) for line in lines])
        third = Shell()
        self.assertEqual(third.say("now"), "no face")
        for line in itertools.chain(BEGUN, ASKS):
            third.say(line)
        self.assertEqual(all_answers(third), all_answers(told(BEGUN)))


if __name__ == "__main__":
    unittest.main()
