"""Points 2, 48 and 49: the console."""

import unittest
from random import Random

from reference import Told, job_by_chance, numbers_by_chance, taken_by_chance
from retrysafe.campaigns import wrong_share
from retrysafe.console import Console
from retrysafe.errors import (
    AtEnd, InvalidArguments, InvalidCount, InvalidJob, InvalidLine, InvalidMarks, InvalidValues, NoJob, NoMachine, NoValue,
    ParseError)
from retrysafe.fewest import fewest
from retrysafe.machine import Machine
from retrysafe.marks import Marks
from retrysafe.studies import Study, least_failures
from retrysafe.texts import format_job, parse_job

ADDING = "load store s: x|job|  set x = x + 1|end"
TWO = "load store p: x|store q: y z|given n|job|  set x = n + x|  set y = x|  set z = y + z|end"
TAKING = "load store s: x|local t|job|  take t|  set x = t + x|end"
SENDING = "load store s: x|job|  send box x|end"
EMPTY = "load store s: x|job|end"
NEED_JOB = ("mark 0", "mark none", "safe", "fewest", "start 1 ; ; ")
NEED_MACHINE = ("step", "fail", "finish", "plans 1")
NO_LINES = (
    "", " ", "x", "load", "Load store s: x|job|end", " load store s: x|job|end", "loadstore s: x|job|end", "mark", "mark ", "mark  0",
    "mark 0 ", "mark 0  1", "mark none 0", "mark 0 none", "mark none ", "mark None", "mark x", "mark 0,1", "mark 0;1", "mark 01",
    "mark +1", "mark -0", "mark 1.0", "mark 1_0", "mark \u0661", "mark 0\t1", "safe ", " safe", "safe now", "Safe", "fewest ", "fewest 1",
    "start", "start ", "start 1", "start 1 ; 2", "start 1 ; 2 ; 3 ; 4", "start ;", "start x ; ; ", "start 1 ; ; x", "start 01 ; ; ",
    "start -0 ; ; ", "start +1 ; ; ", "start 1, 2 ; ; ", "start 1\t2 ; ; ", "start 1 ; ; - 1", "start ; ; ; ", "step ", "step 1",
    " step", "fail 1", "fail ", "finish ", "finishes", "plans", "plans ", "plans  1", "plans 1 ", "plans 1 1", "plans x", "plans 01",
    "plans +1", "plans -0", "plans none", "plans \u00b2", "job", "end", "none", "ok")


def console(*lines):
    found = Console()
    for line in lines:
        found.answer(line)
    return found


def answers(*lines):
    found = Console()
    return [found.answer(line) for line in lines]


class TestAnswers(Told):
    def test_the_examples_of_the_document(self):
        self.assertEqual(answers(ADDING, "safe", "fewest", "mark 0", "safe"), ["ok", "unsafe with 1 failures", "1: 0", "ok", "safe"])
        self.assertEqual(answers(ADDING, "start 4 ;  ; ", "step", "fail", "plans 1"),
                         ["ok", "ok", "far 1 at 1: x=5, ended", "far 1 at 0: x=5", "1 of 3"])

    def test_by_chance(self):
        random = Random(48)
        for _ in range(60):
            job = job_by_chance(random, 5, 6)
            places = [place for place in range(job.places) if random.random() < 0.5]
            marks = Marks(job, places)
            random.shuffle(places)
            values, arguments = numbers_by_chance(random, job)
            taken = taken_by_chance(random, 20)
            found = console("load " + format_job(job).replace("\n", "|"))
            self.assertEqual(found.answer("mark " + (" ".join(map(str, places)) or "none")), "ok")
            study = Study(job, marks)
            told = " ".join(["safe", *(["at"] if study.moments else []), *map(str, study.moments or ())])
            self.assertEqual(found.answer("safe"), told if study.is_safe else f"unsafe with {least_failures(job, marks)} failures")
            cost, best, _ = fewest(job)
            self.assertEqual(found.answer("fewest"), f"{cost}: {' '.join(map(str, best.places)) or 'none'}")
            lists = [" ".join(map(str, numbers)) for numbers in (values, arguments, taken)]
            self.assertEqual(found.answer("start " + " ; ".join(lists)), "ok")
            machine = Machine(job, marks, values, arguments, taken)
            for _ in range(8):
                word = random.choice(("step", "step", "fail", "finish"))
                if word == "step" and machine.is_ended:
                    self.assert_raised(AtEnd, {"position": len(job)}, found.answer, "step")
                    continue
                getattr(machine, word)()
                told = " ".join(f"{name}={value}" for name, value in zip(job.variables, machine.durable))
                ended = ", ended" if machine.is_ended else ""
                self.assertEqual(found.answer(word), f"far {machine.far} at {machine.here}: {told}{ended}")
            if "take" not in format_job(job).split():
                wrong, total = wrong_share(job, marks, values, arguments, 2)
                self.assertEqual(found.answer("plans 2"), f"{wrong} of {total}")

    def test_load(self):
        found = console(TWO, "mark 0 2", "start 1 2 3 ; 4 ; ", "step")
        self.assertEqual(found.answer(ADDING), "ok")
        # There are no marks and no machine behind a second one.
        self.assertEqual((found.answer("safe"), found.answer("fewest")), ("unsafe with 1 failures", "1: 0"))
        self.assert_raised(NoMachine, {}, found.answer, "step")
        self.assertEqual(found.answer(EMPTY), "ok")
        self.assertEqual((found.answer("safe"), found.answer("fewest"), found.answer("mark none")), ("safe", "0: none", "ok"))

    def test_load_refused(self):
        found = console(ADDING, "mark 0", "start 4 ; ; ", "step")
        for text in ("", " ", "job", "store s: x|job|end|", "|store s: x|job|end", "store s: x |job|end", "store s: x|job| |end", "|",
                     "store s: x|job|  set x = " + "9" * 101 + "|end", "store s: x|job|  set x = " + "9" * 5000 + "|end", "ok\u2028"):
            with self.assertRaises(ParseError):
                found.answer("load " + text)
            self.assertRaises(ParseError, Console().answer, "load " + text)
        self.assertEqual((found.answer("safe"), found.answer("fail")), ("safe", "far 1 at 0: x=5"))

    def test_mark(self):
        found = console(TWO)
        for line, told in (("mark 0", "unsafe with 1 failures"), ("mark 0 2", "safe"), ("mark 2 0", "safe"), ("mark 2 1 0", "safe"),
                           ("mark none", "unsafe with 1 failures")):
            self.assertEqual((found.answer(line), found.answer("safe")), ("ok", told))
        self.assertEqual(found.answer("fewest"), "2: 0 2")
        found.answer("start 1 2 3 ; 4 ; ")
        found.answer("mark 1")
        for line in NEED_MACHINE:
            self.assert_raised(NoMachine, {}, found.answer, line)

    def test_moments(self):
        found = console(TAKING, "mark 1")
        self.assertEqual(found.answer("safe"), "safe at 1")
        self.assertEqual((found.answer("mark 0 1"), found.answer("safe")), ("ok", "safe at 0"))
        found = console("load store s: x y|local t u|job|  take t|  take u|  set x = t + x|  set y = u|end", "mark 2")
        self.assertEqual((found.answer("safe"), found.answer("fewest")), ("safe at 2 1", "1: 2"))

    def test_start(self):
        found = console(TWO)
        for line in ("start 1 -2 3 ; 4 ; ", "start   1   -2 3;4;", "start 1 -2 3 ;   4   ;  ", "start  1 -2 3 ; 4 ; 5 6 7", "start 1 -2 3 ; 4 ;"):
            self.assertEqual((found.answer(line), found.answer("step")), ("ok", "far 1 at 1: x=5 y=-2 z=3"))
        found = console(TAKING, "start 1 ; ; 5 7")
        self.assertEqual([found.answer(word) for word in ("step", "fail", "finish")],
                         ["far 1 at 1: x=1", "far 1 at 0: x=1", "far 2 at 2: x=8, ended"])
        self.assertEqual(found.answer("start 1 ;  ; "), "ok")
        self.assert_raised(NoValue, {"position": 0}, found.answer, "finish")

    def test_a_job_without_steps(self):
        found = console(EMPTY, "start 7 ;  ; ")
        self.assertEqual([found.answer(word) for word in ("finish", "fail", "plans 60")],
                         ["far 0 at 0: x=7, ended", "far 0 at 0: x=7, ended", "0 of 61"])
        self.assert_raised(AtEnd, {"position": 0}, found.answer, "step")

    def test_plans(self):
        found = console(ADDING, "start 4 ; ; ", "finish", "fail")
        self.assertEqual([found.answer(f"plans {many}") for many in (0, 1, 2, 60)],
                         ["0 of 1", "1 of 3", "4 of 7", f"{2 ** 61 - 62} of {2 ** 61 - 1}"])
        self.assertEqual(found.answer("finish"), "far 1 at 1: x=6, ended")
        found = console(ADDING, "mark 0", "start 4 ; ; ")
        self.assertEqual(found.answer("plans 3"), "0 of 15")

    def test_long_numbers(self):
        longest, longer = "9" * 300, "9" * 301
        found = console(ADDING)
        self.assertEqual((found.answer(f"start {longest} ; ; "), found.answer("step")), ("ok", f"far 1 at 1: x=1{'0' * 300}, ended"))
        self.assertEqual((found.answer(f"start -{longest} ; ; "), found.answer("step")), ("ok", f"far 1 at 1: x=-{'9' * 299}8, ended"))
        for line in ("start {} ; ; ", "start -{} ; ; ", "start 1 ; {} ; ", "start 1 ; ; 2 {}", "mark {}", "mark 0 -{}", "plans {}", "plans -{}"):
            self.assert_raised(InvalidLine, {}, found.answer, line.format(longer))
            self.assert_raised(InvalidLine, {}, found.answer, line.format("9" * 5000))
        with self.assertRaises(InvalidMarks):
            found.answer("mark " + longest)
        with self.assertRaises(InvalidCount) as caught:
            found.answer("plans -" + longest)
        self.assertEqual(caught.exception.value, -int(longest))

    def test_answers_longer_than_python_writes(self):
        body = "|".join(["    set x = -i + 1" + "0" * 99 + " * x"] * 4)
        found = console("load store s: x|job|  repeat i in 1 2 3 4|" + body + "|  end|end", "start 7 ; ; ")
        for _ in range(3):
            line = found.answer("finish")
            found.answer("fail")
        told, digits = line.split(", ")[0].split("=")
        self.assertEqual((told, len(digits), set(digits) <= set("0123456789")), ("far 16 at 16: x", 48 * 99 + 1, True))
        value = 7
        for _ in range(3):
            for number in (1, 2, 3, 4):
                for _ in range(4):
                    value = value * 10 ** 99 - number
        chunks = [int(digits[at:at + 1000]) for at in range(0, len(digits), 1000)]
        again = 0
        for at, chunk in enumerate(chunks):
            again = again * 10 ** min(1000, len(digits) - 1000 * at) + chunk
        self.assertEqual(again, value)


class TestErrors(Told):
    def test_what_is_no_line(self):
        for found in (Console(), console(ADDING), console(ADDING, "start 1 ; ; ")):
            for value in NO_LINES + (None, 0, True, 1.5, b"safe", ["safe"], ("safe",), {"safe": 1}, {"safe"}, Console):
                self.assert_raised(InvalidLine, {}, found.answer, value)
            for line in (ADDING, "safe", "mark 0", "start 1 ; ; ", "step", "plans 1"):
                for wrong in (line + "\n", "\n" + line, line.replace(" ", "\n", 1) if " " in line else line + "\n"):
                    self.assert_raised(InvalidLine, {}, found.answer, wrong)
        self.assertRaises(InvalidLine, Console().answer, ADDING.replace("|", "\n"))
        self.assertEqual(console(ADDING).answer(line="safe"), "unsafe with 1 failures")

    def test_no_job_and_no_machine(self):
        for line in NEED_JOB + NEED_MACHINE:
            self.assert_raised(NoJob, {}, Console().answer, line)
        for found in (console(ADDING), console(ADDING, "mark 0"), console(ADDING, "start 1 ; ; ", "mark none"), console(TWO, "start 1 2 3 ; 4 ; ", ADDING)):
            for line in NEED_MACHINE:
                self.assert_raised(NoMachine, {}, found.answer, line)
        # A number that plans do not have is refused only behind these.
        self.assert_raised(NoJob, {}, Console().answer, "plans 61")
        self.assert_raised(NoJob, {}, Console().answer, "mark 7")
        self.assert_raised(NoMachine, {}, console(ADDING).answer, "plans 61")

    def test_errors_of_the_functions(self):
        found = console(TWO, "mark 0 2", "start 1 2 3 ; 4 ; ", "step")
        for line, error, value in (("mark 3", InvalidMarks, (3,)), ("mark -1", InvalidMarks, (-1,)), ("mark 0 0", InvalidMarks, (0, 0)),
                                   ("start 1 2 ; 4 ; ", InvalidValues, (1, 2)), ("start ; ; ", InvalidValues, ()),
                                   ("start 1 2 3 ; ; ", InvalidArguments, ()), ("start 1 2 3 ; 4 5 ; ", InvalidArguments, (4, 5)),
                                   ("plans 61", InvalidCount, 61), ("plans -1", InvalidCount, -1)):
            with self.assertRaises(error) as caught:
                found.answer(line)
            self.assertEqual(caught.exception.value, value)
        # Nothing has changed by what was refused.
        self.assertEqual([found.answer(line) for line in ("safe", "fail", "finish", "plans 1")],
                         ["safe", "far 1 at 0: x=5 y=2 z=3", "far 3 at 3: x=5 y=5 z=8, ended", "0 of 5"])
        self.assert_raised(AtEnd, {"position": 3}, found.answer, "step")

    def test_jobs_that_take_or_send(self):
        found = console(TAKING, "start 1 ; ; 2 3")
        self.assert_raised(InvalidJob, {"part": None}, found.answer, "plans 1")
        found.answer("finish")
        self.assert_raised(AtEnd, {"position": 2}, found.answer, "step")
        found = console(SENDING, "mark 0")
        for line in ("safe", "fewest", "start 1 ; ; "):
            self.assert_raised(InvalidJob, {"part": None}, found.answer, line)
        self.assert_raised(NoMachine, {}, found.answer, "finish")

    def test_a_finish_without_values_changes_nothing(self):
        found = console("load store s: x|job|  set x = 3|  take x|end", "start 1 ; ; ")
        self.assert_raised(NoValue, {"position": 1}, found.answer, "finish")
        self.assertEqual(found.answer("step"), "far 1 at 1: x=3")
        self.assert_raised(NoValue, {"position": 1}, found.answer, "step")
        self.assertEqual(found.answer("fail"), "far 1 at 0: x=3")

    def test_consoles_are_independent(self):
        one, other = console(ADDING), Console()
        self.assert_raised(NoJob, {}, other.answer, "safe")
        self.assertEqual(one.answer("safe"), "unsafe with 1 failures")
        self.assertRaises(TypeError, iter, one)
        self.assertEqual(parse_job(ADDING[5:].replace("|", "\n")).places, 1)


if __name__ == "__main__":
    unittest.main()
