"""Points 2, 3 (j), 46 and 47: journals."""

import unittest
from random import Random

from reference import (
    NO_TUPLES, SlowRun, Told, all_choices, is_right, job_by_chance, marked_by_chance, numbers_by_chance, plan_by_chance,
    taken_by_chance)
from retrysafe.errors import (
    AtEnd, InvalidArguments, InvalidMarks, InvalidTaken, InvalidText, InvalidValues, NoValue, Started)
from retrysafe.jobs import Job
from retrysafe.journal import Journal, recover, resume
from retrysafe.machine import Machine
from retrysafe.marks import Marks
from retrysafe.studies import Study
from retrysafe.texts import format_job, parse_job

ADDING = parse_job("store s: x\njob\n  set x = x + 1\nend")
MOVING = parse_job("store p: x\nstore q: y\ngiven n\nlocal t u\njob\n  set t = x\n  atomic\n    set u = n + t\n    set x = u\n  end\n"
                   "  repeat i in 1 2\n    set y = i + t + y\n  end\n  set y = u + y\nend")
TAKING = parse_job("store s: x y\nlocal t\njob\n  take t\n  atomic\n    take y\n    set x = t + x + y\n  end\n  set y = t\nend")
SENDING = parse_job("store s: x\njob\n  send box x\nend")
EMPTY = Job((("s", ("x",)),), (), (), ())


def state(machine):
    return (machine.durable, machine.temps, machine.here, machine.far, machine.plan, machine.taken_count, machine.is_ended)


class Written:
    """A journal, and how many moves were behind it at each line."""

    def __init__(self, job, marks, values, arguments, taken=()):
        self.told = (job, marks, values, arguments)
        self.taken = taken
        self.journal = Journal(Machine(job, marks, values, arguments, taken))
        self.moves = []
        self.lines = []
        self.used = []

    def make(self, moves):
        for move in moves:
            machine = self.journal.machine()
            if move == "step" and machine.is_ended:
                break
            done = getattr(self.journal, move)()
            self.moves.append(move)
            if done is not None and done[0] == "do":
                self.lines.append(len(self.moves))
                self.used.append(self.journal.machine().taken_count)
        return self

    def text(self):
        return self.journal.text()

    def parts(self):
        """The lines of the text with their line feeds."""
        return [line + "\n" for line in self.text().split("\n")[:-1]]

    def behind(self, many, taken=()):
        """A machine behind so many of the performed executions and a failure, with further taken values."""
        job, marks, values, arguments = self.told
        used = self.used[many - 1] if many else 0
        machine = Machine(job, marks, values, arguments, self.taken[:used] + taken)
        for move in self.moves[:self.lines[many - 1]] if many else []:
            getattr(machine, move)()
        machine.fail()
        return machine

    def recovered(self, text, taken=()):
        return recover(*self.told, text, taken)


def moves_by_chance(random, job):
    """Moves with failures, and then steps up to the end."""
    moves = []
    for _ in range(random.randint(0, 3)):
        moves += ["step"] * random.randint(0, len(job)) + ["fail"]
    return moves + ["step"] * random.randint(0, len(job))


def written_by_chance(random, places=6, executions=6):
    job = job_by_chance(random, places, executions)
    marks = Marks(job, marked_by_chance(random, job))
    values, arguments = numbers_by_chance(random, job)
    return Written(job, marks, values, arguments, taken_by_chance(random, 12)).make(moves_by_chance(random, job))


class Checked(Told):
    def assert_behind(self, written, many, text, plans=((),)):
        """What a text recovers is the state behind so many lines."""
        taken = tuple(range(50, 90))
        machine, told = written.recovered(text, taken), written.behind(many, taken)
        self.assertEqual((machine.durable, machine.far, machine.here, machine.taken_count, set(machine.temps) | {0}),
                         (told.durable, told.far, 0, 0, {0}))
        for plan in plans:
            self.assertEqual(machine.trial(plan).durable, told.trial(plan).durable)


class TestJournal(Checked):
    def test_the_example_of_the_document(self):
        journal = Journal(Machine(ADDING, Marks(ADDING, (0,)), (4,), ()))
        move = journal.step()
        machine = recover(ADDING, Marks(ADDING, (0,)), (4,), (), journal.text() + "torn")
        self.assertEqual([move, machine.durable, machine.far, machine.here], [("do", 0, (5,)), (5,), 1, 0])

    def test_it_is_the_machine(self):
        random = Random(46)
        for _ in range(80):
            job = job_by_chance(random, 6, 8)
            marks = Marks(job, marked_by_chance(random, job))
            values, arguments = numbers_by_chance(random, job)
            machine = Machine(job, marks, values, arguments, taken_by_chance(random, 12))
            journal = Journal(machine=machine)
            performed = 0
            for move in moves_by_chance(random, job) + ["finish"]:
                if move == "step" and machine.is_ended:
                    continue
                before = machine.copy()
                done = getattr(machine, move)()
                self.assertEqual(getattr(journal, move)(), done)
                self.assertEqual(journal.machine(), machine)
                if move == "finish":
                    while not before.is_ended:
                        performed += before.step()[0] == "do"
                performed += done is not None and done[0] == "do"
                self.assertEqual(journal.text().count("\n"), 1 + performed)
            self.assertTrue(journal.text().endswith("\n"))

    def test_a_machine_that_has_moved(self):
        machine = Machine(MOVING, Marks(MOVING), (1, 2), (3,))
        machine.step()
        self.assert_raised(Started, {"position": 1}, Journal, machine)
        machine.fail()
        self.assert_raised(Started, {"position": 0}, Journal, machine)
        machine.finish()
        self.assert_raised(Started, {"position": 5}, Journal, machine)
        started = Machine(MOVING, Marks(MOVING), (1, 2), (3,))
        started.fail()
        self.assert_raised(Started, {"position": 0}, Journal, started)
        ended = Machine(EMPTY, Marks(EMPTY), (1,), ())
        Journal(ended)
        ended.fail()
        self.assert_raised(Started, {"position": 0}, Journal, ended)
        for text in ("", Journal(Machine(ADDING, Marks(ADDING), (1,), ())).text()):
            self.assert_raised(Started, {"position": 0}, Journal, recover(ADDING, Marks(ADDING), (1,), (), text))

    def test_copies(self):
        machine = Machine(ADDING, Marks(ADDING), (4,), ())
        with machine.failing((0, 1)):
            journal = Journal(machine)
        machine.finish()
        journal.machine().finish()
        self.assertEqual((journal.machine().durable, journal.machine().here), ((4,), 0))
        self.assertEqual(journal.step(), ("do", 0, (5,)))
        self.assert_raised(AtEnd, {"position": 1}, journal.step)
        self.assertIsNone(journal.fail())
        self.assertIsNone(journal.finish())
        self.assertEqual(journal.machine().durable, (6,))
        self.assertIsNot(journal.machine(), journal.machine())

    def test_failures_alone_write_nothing(self):
        journal = Journal(Machine(MOVING, Marks(MOVING), (1, 2), (3,)))
        first = journal.text()
        for _ in range(3):
            journal.fail()
        self.assertEqual((journal.text(), first.count("\n")), (first, 1))
        journal.step()
        written = journal.text()
        journal.fail()
        self.assertEqual(journal.text(), written)

    def test_what_is_passed_over_writes_nothing(self):
        journal = Journal(Machine(ADDING, Marks(ADDING, (0,)), (4,), ()))
        journal.finish()
        text = journal.text()
        journal.fail()
        self.assertEqual((journal.step(), journal.text()), (("pass", 0), text))

    def test_errors_change_nothing(self):
        journal = Journal(Machine(TAKING, Marks(TAKING), (0, 0), (), (5,)))
        first = (journal.text(), journal.machine())
        self.assert_raised(NoValue, {"position": 1}, journal.finish)
        self.assertEqual((journal.text(), journal.machine()), first)
        journal.step()
        told = (journal.text(), journal.machine())
        for action in (journal.step, journal.finish):
            self.assert_raised(NoValue, {"position": 1}, action)
            self.assertEqual((journal.text(), journal.machine()), told)

    def test_equal_machines_have_equal_texts(self):
        random = Random(47)
        for _ in range(30):
            written = written_by_chance(random)
            job, marks, values, arguments = written.told
            again = parse_job(format_job(job))
            other = Written(again, Marks(again, marks.places[::-1]), values, arguments, written.taken)
            self.assertEqual(other.make(written.moves).text(), written.text())

    def test_the_first_line_does_not_depend_on_the_taken_values(self):
        texts = {Journal(Machine(TAKING, Marks(TAKING), (0, 1), (), taken)).text() for taken in ((), (1,), (2, 3), (0,))}
        self.assertEqual(len(texts), 1)

    def test_numbers_longer_than_python_writes(self):
        job = parse_job("store s: x\njob\n  repeat i in 1 2 3 4\n" + f"    set x = -i + {10 ** 99 + 1} * x\n" * 4 + "  end\nend")
        journal = Journal(Machine(job, Marks(job), (-7,), ()))
        for _ in range(3):
            journal.finish()
            journal.fail()
        self.assertEqual(len(set(journal.text().split("\n"))), 1 + 48 + 1)
        ended = recover(job, Marks(job), (-7,), (), journal.text())
        self.assertEqual(ended.durable, journal.machine().durable)
        self.assertTrue(ended.durable[0] < -10 ** 4300)


class TestRecover(Checked):
    def test_whole_texts_and_each_line(self):
        random = Random(471)
        many = 0
        for _ in range(80):
            written = written_by_chance(random)
            parts = written.parts()
            self.assertEqual(len(parts), 1 + len(written.lines))
            many += len(parts)
            plans = [plan_by_chance(random, written.told[0], 2) for _ in range(3)]
            for at in range(1, len(parts) + 1):
                self.assert_behind(written, at - 1, "".join(parts[:at]), plans)
        self.assertGreater(many, 250)

    def test_torn_at_each_place(self):
        random = Random(472)
        for written in [written_by_chance(random) for _ in range(6)] + [
                Written(MOVING, Marks(MOVING, (0, 1, 3)), (1, 2), (3,)).make(["step"] * 3 + ["fail"] + ["step"] * 5)]:
            text = written.text()
            for end in range(len(text)):
                whole = text[:end].count("\n")
                self.assert_behind(written, max(0, whole - 1), text[:end])

    def test_each_changed_character(self):
        written = Written(MOVING, Marks(MOVING, (0, 3)), (1, -2), (33,)).make(["step"] * 2 + ["fail"] + ["step"] * 5)
        parts = written.parts()
        for number, part in enumerate(parts):
            ahead, line, behind = "".join(parts[:number]), part[:-1], "".join(parts[number + 1:])
            told = {}
            for at in range(len(line) + 1):
                for letter in "\n#;013- \r\u2028\u0660":
                    told[line[:at] + letter + line[at:] + "\n"] = letter == "\n" and at == len(line)
                    if at < len(line):
                        told[line[:at] + letter + line[at + 1:] + "\n"] = False
                told[line[:at] + line[at + 1:] + ("\n" if at < len(line) else "")] = False
            # Also a line feed may be changed.
            told[line + " "] = told[line + ";"] = told[line + "\r\n"] = False
            told.pop(part, None)
            for changed, is_whole in told.items():
                self.assert_behind(written, max(0, number if is_whole else number - 1), ahead + changed + behind)

    def test_no_two_lines_are_alike(self):
        random = Random(473)
        lines = {}
        for _ in range(60):
            written = written_by_chance(random)
            lines.update((part[:-1], True) for part in written.parts())
        for numbers in ((0,), (1,), (10,), (11,), (-1,), (-11,), (100,)):
            for line in Journal(Machine(ADDING, Marks(ADDING), numbers, ())).text().split("\n")[:-1]:
                lines[line] = True
        self.assertGreater(len(lines), 150)
        for line in lines:
            for at in range(len(line) + 1):
                self.assertNotIn(line[:at] + line[at + 1:], lines.keys() - {line})
                for letter in "#;0123456789- ":
                    self.assertNotIn(line[:at] + letter + line[at:], lines)
                    if at < len(line):
                        self.assertNotIn(line[:at] + letter + line[at + 1:], lines.keys() - {line})

    def test_other_values_and_arguments(self):
        for values, arguments in (((1, 3), (3,)), ((2, 2), (3,)), ((1, 2), (4,)), ((1, 2), (-3,)), ((12, 2), (3,)), ((1, 23), (3,))):
            written = Written(MOVING, Marks(MOVING, (0,)), (1, 2), (3,)).make(["step"] * 4)
            other = Written(MOVING, Marks(MOVING, (0,)), values, arguments).make(["step"] * 4)
            self.assert_behind(written, 0, other.text())
            for at in range(1, 5):
                mixed = written.parts()[:at] + other.parts()[at:]
                self.assert_behind(written, at - 1, "".join(mixed))
        # Also where the steps make of all values the same.
        job = parse_job("store s: x\ngiven n\njob\n  set x = 5\n  set x = 6\nend")
        one = Written(job, Marks(job), (1,), (2,)).make(["step"] * 2)
        for values, arguments in (((2,), (2,)), ((1,), (3,))):
            other = Written(job, Marks(job), values, arguments).make(["step"] * 2)
            self.assert_behind(one, 0, one.parts()[0] + "".join(other.parts()[1:]))
            self.assertEqual(len(set(one.parts()) & set(other.parts())), 0)

    def test_what_no_run_writes(self):
        written = Written(MOVING, Marks(MOVING, (0, 1)), (1, 2), (3,)).make(["step"] * 5)
        parts = written.parts()
        for text, many in (("", 0), ("\n", 0), ("\n" + written.text(), 0), ("".join(parts[1:]), 0), ("".join(parts[:1] + parts), 0),
                           ("".join(parts[:1] + parts[2:]), 0), ("".join(parts[:2] + parts[1:]), 1), (parts[0] + "\n" + "".join(parts[1:]), 0),
                           ("".join(parts[:3] + parts[4:]), 2), ("".join(parts + parts[:1]), 5), ("".join(parts + parts[5:]), 5),
                           ("x" * 1000, 0), ("#\n" * 5, 0), (parts[0] + "#\n" * 5, 0), (parts[0] + ";;;;;;#;;;;;;\n", 0)):
            self.assert_behind(written, many, text)

    def test_lines_of_another_run(self):
        job = parse_job("store s: x y\njob\n  set x = x + 1\n  set y = x + y\n  set x = 2 * x\nend")
        one = Written(job, Marks(job, (1,)), (1, 2), ()).make(["step"] * 3)
        other = Written(job, Marks(job, (1,)), (1, 2), ()).make(["step", "fail", "step", "fail", "step", "step", "step"])
        # The second line of the other run comes behind a failure: it goes on from the first lines of both alike.
        self.assert_behind(other, 2, one.parts()[0] + one.parts()[1] + other.parts()[2])
        # Its later lines tell other values.
        self.assert_behind(one, 1, "".join(one.parts()[:2] + other.parts()[3:]))
        self.assert_behind(one, 2, "".join(one.parts()[:3] + other.parts()[2:]))
        self.assert_behind(one, 3, one.text() + "".join(other.parts()[1:]))
        marked = Written(job, Marks(job, (0, 1, 2)), (1, 2), ()).make(["step"] * 3)
        self.assert_behind(one, 0, marked.text())

    def test_taken_values(self):
        written = Written(TAKING, Marks(TAKING, (1,)), (1, 2), (), (5, -7, 10 ** 50, 4, 3)).make(
            ["step"] * 2 + ["fail"] + ["step"] * 3 + ["fail", "step"])
        parts = written.parts()
        self.assertEqual(len(parts), 1 + 2 + 2 + 1)
        for at in range(1, 7):
            self.assert_behind(written, at - 1, "".join(parts[:at]), ((), (1,), (2, 3)))
        # Lines of a run that takes other values go on from it, as some run takes those.
        other = Written(TAKING, Marks(TAKING, (1,)), (1, 2), (), (5, 8, 9)).make(["step"] * 3)
        self.assert_behind(other, 2, parts[0] + parts[1] + other.parts()[2])
        self.assert_raised(NoValue, {"position": 0}, written.recovered(written.text()).step)
        machine = written.recovered(written.text(), (1, 2))
        self.assertEqual((machine.step(), machine.taken_count), (("do", 0, machine.durable), 1))

    def test_safe_jobs_end_right(self):
        random = Random(474)
        tried = 0
        for _ in range(150):
            written = written_by_chance(random)
            job, marks, values, arguments = written.told
            if not Study(job, marks).is_safe:
                continue
            text, new = written.text(), tuple(range(70, 99))
            for end in random.sample(range(len(text) + 1), 5):
                many = max(0, text[:end].count("\n") - 1)
                told = written.behind(many, new)
                run = (values, arguments, told.plan, written.taken[:told.taken_count] + new)
                ended = SlowRun(job, marks.places, *run[:2], run[3]).follow(run[2])
                machine = written.recovered(text[:end], new)
                machine.finish()
                self.assertEqual(machine.durable, tuple(ended.durable.values()))
                self.assertTrue(any(is_right(job, marks.places, run, choice) for choice in all_choices(job)))
                tried += 1
        self.assertGreater(tried, 100)

    def test_errors_in_order(self):
        marks = Marks(TAKING)
        for action in (recover, resume):
            for value in (None, 0, "job", ADDING.steps, SENDING, Job, marks):
                self.assert_no_job(action, value, None, None, None, None, None)
            for value in (None, (), (0,), TAKING, Marks(ADDING), Marks):
                self.assert_value(InvalidMarks, value, action, TAKING, value, None, None, None, None)
            for value in NO_TUPLES + ((), (1,), (True, 1)):
                self.assert_value(InvalidValues, value, action, TAKING, marks, value, None, None, None)
            for value in NO_TUPLES + ((1,),):
                self.assert_value(InvalidArguments, value, action, TAKING, marks, (1, 2), value, None, None)
            for value in NO_TUPLES + ((True,), (None,), (1, 1.0)):
                self.assert_value(InvalidTaken, value, action, TAKING, marks, (1, 2), (), None, value)
            for value in (None, 0, True, b"", [], [""], (), ("",), {}, 1.5, marks):
                self.assert_value(InvalidText, value, action, TAKING, marks, (1, 2), (), value)
                self.assert_value(InvalidText, value, action, TAKING, marks, (1, 2), (), value, (1,))


class TestResume(Checked):
    def test_going_on(self):
        journal = Journal(Machine(MOVING, Marks(MOVING, (0, 1, 3)), (1, 2), (3,)))
        for _ in range(3):
            journal.step()
        again = resume(MOVING, Marks(MOVING, (0, 1, 3)), (1, 2), (3,), journal.text() + "torn")
        self.assertEqual(again.text(), journal.text())
        self.assertEqual((again.machine().here, again.machine().far, again.machine().durable), (0, 3, journal.machine().durable))
        self.assertEqual(again.machine(), recover(MOVING, Marks(MOVING, (0, 1, 3)), (1, 2), (3,), journal.text()))
        again.finish()
        self.assertTrue(again.text().startswith(journal.text()))
        third = resume(job=MOVING, marks=Marks(MOVING, (0, 1, 3)), values=(1, 2), arguments=(3,), text=again.text(), taken=(1,))
        self.assertEqual((third.text(), third.machine().durable), (again.text(), again.machine().durable))

    def test_nothing_to_follow(self):
        marks = Marks(ADDING, (0,))
        first = Journal(Machine(ADDING, marks, (4,), ())).text()
        for text in ("", "x", first[:-1], first[1:], Journal(Machine(ADDING, marks, (5,), ())).text()):
            again = resume(ADDING, marks, (4,), (), text)
            self.assertEqual((again.text(), again.machine().durable, again.machine().far), (first, (4,), 0))
            self.assertEqual(again.step(), ("do", 0, (5,)))
            self.assertEqual(recover(ADDING, marks, (4,), (), again.text()).durable, (5,))

    def test_torn_and_resumed_again_and_again(self):
        random = Random(475)
        safe = 0
        for _ in range(120):
            job = job_by_chance(random, 6, 6)
            marks = Marks(job, marked_by_chance(random, job))
            values, arguments = numbers_by_chance(random, job)
            told = (job, marks, values, arguments)
            journal = Journal(Machine(*told, taken_by_chance(random, 30)))
            for _ in range(4):
                for move in moves_by_chance(random, job):
                    if move == "fail" or not journal.machine().is_ended:
                        getattr(journal, move)()
                text = journal.text()
                whole = recover(*told, text)
                self.assertEqual((whole.durable, whole.far), (journal.machine().durable, journal.machine().far))
                torn = text[:random.randint(0, len(text))] if random.random() < 0.6 else text + random.choice(("", "x", "\n", text))
                new = taken_by_chance(random, 30)
                journal = resume(*told, torn, new)
                first = text.split("\n")[0] + "\n"
                self.assertTrue(journal.text() == first or torn.startswith(journal.text()))
                machine, single = journal.machine(), recover(*told, torn, new)
                self.assertEqual(machine, single)
                self.assertEqual((machine.here, machine.taken_count), (0, 0))
            if Study(job, marks).is_safe and "take" not in format_job(job).split():
                journal.finish()
                plain = Machine(*told)
                plain.finish()
                self.assertEqual(journal.machine().durable, plain.durable)
                safe += 1
        self.assertGreater(safe, 20)

    def test_journals_are_not_iterated(self):
        journal = Journal(Machine(ADDING, Marks(ADDING), (4,), ()))
        self.assertRaises(TypeError, iter, journal)
        self.assertRaises(TypeError, len, journal)


if __name__ == "__main__":
    unittest.main()
