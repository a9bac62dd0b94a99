"""Points 2, 12, 14 and 16: runs with failures."""

import unittest
from random import Random

from reference import (
    NO_TUPLES, Lacking, SlowRun, Told, job_by_chance, marked_by_chance, numbers_by_chance, plan_by_chance,
    taken_by_chance, takers)
from retrysafe.errors import (
    InvalidArguments, InvalidMarks, InvalidPlan, InvalidTaken, InvalidValues, NoValue)
from retrysafe.jobs import Job
from retrysafe.marks import Marks
from retrysafe.runs import attempts, outcome
from retrysafe.texts import format_job, parse_job

TWO = parse_job("store s: x\nlocal t\njob\n  set t = x\n  set x = t + 1\nend")
TAKING = parse_job("store s: x\ngiven n\nlocal t\njob\n  take t\n  set x = t + x\nend")
SENDING = parse_job("store s: x\njob\n  send box x\nend")
EMPTY = Job((("s", ("x",)),), (), (), ())


def moves(job, places, *rest):
    return list(attempts(job, Marks(job, places), *rest))


def end(job, places, *rest):
    return outcome(job, Marks(job, places), *rest)


class TestOutcome(Told):
    def test_the_example_of_the_document(self):
        self.assertEqual(outcome(TWO, Marks(TWO), (4,), (), (2,), ())[0], (6,))
        self.assertEqual(outcome(TWO, Marks(TWO, (1,)), (4,), (), (1, 2), ())[0], (5,))

    def test_without_failure(self):
        self.assertEqual(end(TWO, (), (4,), (), (), ()), ((5,), ()))
        self.assertEqual(end(TAKING, (0, 1), (4,), (0,), (), (7,)), ((11,), ((7, 7),)))
        named = outcome(job=TWO, marks=Marks(TWO), values=(4,), arguments=(), plan=(), taken=())
        self.assertEqual(named, ((5,), ()))

    def test_a_job_without_steps(self):
        for plan in ((), (0,), (0, 0, 0)):
            self.assertEqual(end(EMPTY, (), (3,), (), plan, (1, 2)), ((3,), ()))
        self.assertEqual(moves(EMPTY, (), (3,), (), (0, 0), ()), [("fail", 0), ("fail", 0)])

    def test_failures_at_the_beginning_at_the_end_and_at_one_position(self):
        self.assertEqual(end(TWO, (), (4,), (), (0, 0, 0), ())[0], (5,))
        self.assertEqual(end(TWO, (), (4,), (), (1, 1), ())[0], (5,))
        self.assertEqual(end(TWO, (), (4,), (), (2, 2, 0, 2), ())[0], (8,))

    def test_values_that_are_seen(self):
        # The second attempt passes over execution 1, which saw the first value in the first one.
        self.assertEqual(end(TAKING, (1,), (0,), (0,), (2,), (5, 7)), ((5,), ((7, 5),)))
        self.assertEqual(end(TAKING, (), (0,), (0,), (2,), (5, 7)), ((12,), ((7, 7),)))
        self.assertEqual(end(TAKING, (0,), (0,), (0,), (2,), (5,)), ((10,), ((5, 5),)))
        # The first attempt did not come to execution 1.
        self.assertEqual(end(TAKING, (1,), (0,), (0,), (1, 1), (5, 7, 9)), ((9,), ((9, 9),)))

    def test_values_of_two_takes_are_seen(self):
        job = parse_job("store s: x y\njob\n  take x\n  take y\n  set x = x + y\nend")
        self.assertEqual(end(job, (2,), (0, 0), (), (3, 2, 1), (1, 2, 3, 4, 5, 6, 7)), ((6, 7), ((6, 6, 1), (7, 2))))
        self.assertEqual(end(job, (0,), (0, 0), (), (3,), (1, 2, 3)), ((6, 3), ((1, 1, 1), (3, 3))))

    def test_a_take_within_atomic_sees_what_was_taken(self):
        job = parse_job("store s: x\njob\n  atomic\n    take x\n    set x = 2 * x + 1\n  end\nend")
        self.assertEqual(end(job, (), (0,), (), (1,), (5, 7)), ((15,), ((7,),)))

    def test_further_taken_values(self):
        self.assertEqual(end(TAKING, (), (0,), (0,), (), (5, 7, 9)), ((5,), ((5, 5),)))

    def test_taken_values_that_do_not_suffice(self):
        self.assert_raised(NoValue, {"position": 0}, end, TAKING, (), (0,), (0,), (), ())
        self.assert_raised(NoValue, {"position": 0}, end, TAKING, (), (0,), (0,), (2,), (5,))
        later = parse_job("store s: x\njob\n  set x = 1\n  repeat i in 1 2\n    take x\n  end\nend")
        self.assert_raised(NoValue, {"position": 2}, end, later, (), (0,), (), (), (5,))
        self.assert_raised(NoValue, {"position": 1}, end, later, (), (0,), (), (2,), (5,))

    def test_kept_locals(self):
        job = parse_job("store s: x\nlocal t u\njob\n  atomic\n    set t = x\n    set u = 1\n  end\n  set x = t + u + x\nend")
        self.assertEqual(end(job, (0,), (3,), (), (2,), ())[0], (11,))
        self.assertEqual(end(job, (), (3,), (), (2,), ())[0], (15,))
        # A local is kept as it was when the step was performed, not as it was later.
        late = parse_job("store s: x\nlocal t\njob\n  set t = 1\n  set t = t + x\n  set x = t\nend")
        self.assertEqual(end(late, (0,), (5,), (), (3,), ())[0], (7,))
        self.assertEqual(end(late, (0, 1), (5,), (), (3,), ())[0], (6,))

    def test_a_marked_repeat_keeps_no_locals(self):
        job = parse_job("store s: x\nlocal t\njob\n  repeat i in 3 4\n    set t = i + t\n  end\n  set x = t\nend")
        self.assertEqual(end(job, (0,), (9,), (), (2,), ())[0], (0,))
        self.assertEqual(end(job, (0,), (9,), (), (1,), ())[0], (4,))
        self.assertEqual(end(job, (1,), (9,), (), (2,), ())[0], (7,))
        self.assertEqual(end(job, (0, 1), (9,), (), (2,), ())[0], (7,))

    def test_a_round_that_was_not_ended_is_begun_again(self):
        job = parse_job("store s: x\njob\n  repeat i in 1 10\n    set x = i + x\n    set x = i + x\n  end\nend")
        self.assertEqual(end(job, (0,), (0,), (), (1,), ())[0], (23,))
        self.assertEqual(end(job, (0,), (0,), (), (2,), ())[0], (22,))
        self.assertEqual(end(job, (0,), (0,), (), (3, 3), ())[0], (42,))
        self.assertEqual(end(job, (0, 1), (0,), (), (3, 3), ())[0], (22,))

    def test_by_chance(self):
        random = Random(14)
        lacking = 0
        for _ in range(400):
            job = job_by_chance(random, 9, 16)
            marked = marked_by_chance(random, job)
            values, arguments = numbers_by_chance(random, job)
            plan = plan_by_chance(random, job, 5)
            taken = taken_by_chance(random, random.choice((0, 2, 5, 12)))
            run = SlowRun(job, marked, values, arguments, taken)
            told = (parse_job(format_job(job)), Marks(job, marked), values, arguments, plan, taken)
            try:
                run.follow(plan)
            except Lacking as error:
                lacking += 1
                self.assert_raised(NoValue, {"position": error.args[0]}, outcome, *told)
                made = []
                with self.assertRaises(NoValue):
                    for move in attempts(*told):
                        made.append(move)
                self.assertEqual(made, run.moves)
                continue
            seen = tuple(tuple(run.seen[e, moment] for moment in range(e, len(job))) for e in takers(job))
            self.assertEqual(outcome(*told), (tuple(run.durable.values()), seen))
            self.assertEqual(list(attempts(*told)), run.moves)
        self.assertGreater(lacking, 20)

    def test_long_plans(self):
        plan = (2, 1, 0) * 3000
        self.assertEqual(end(TWO, (), (0,), (), plan, ())[0], (3001,))
        self.assertEqual(len(moves(TWO, (), (0,), (), plan, ())), 18002)


class TestAttempts(Told):
    def test_moves(self):
        self.assertEqual(moves(TWO, (1,), (4,), (), (1, 2), ()), [
            ("do", 0, (4,)), ("fail", 1), ("do", 0, (4,)), ("do", 1, (5,)), ("fail", 2), ("do", 0, (5,)), ("pass", 1)])

    def test_failures_at_position_0(self):
        self.assertEqual(moves(TWO, (), (4,), (), (0,), ()), [("fail", 0), ("do", 0, (4,)), ("do", 1, (5,))])

    def test_moves_come_one_by_one(self):
        made = attempts(TAKING, Marks(TAKING), (4,), (0,), (2,), (1,))
        self.assertEqual([next(made) for _ in range(3)], [("do", 0, (4,)), ("do", 1, (5,)), ("fail", 2)])
        with self.assertRaises(NoValue) as caught:
            next(made)
        self.assertEqual(caught.exception.position, 0)

    def test_arguments_are_checked_with_the_first_element(self):
        made = attempts(None, None, None, None, None, None)
        self.assert_no_job(next, made)


class TestErrors(Told):
    def both(self, *told):
        return (outcome, told), (lambda *rest: next(attempts(*rest)), told)

    def test_errors_in_order(self):
        marks = Marks(TAKING)
        for value in (None, 0, "job", TAKING.steps, SENDING, Job):
            for action, told in self.both(value, None, None, None, None, None):
                self.assert_no_job(action, *told)
        for value in (None, (), (0,), TAKING, Marks(TWO), Marks(SENDING)):
            for action, told in self.both(TAKING, value, None, None, None, None):
                self.assert_value(InvalidMarks, value, action, *told)
        for value in NO_TUPLES + ((), (1, 2), (True,), [1], (1.0,), (None,)):
            for action, told in self.both(TAKING, marks, value, None, None, None):
                self.assert_value(InvalidValues, value, action, *told)
            for action, told in self.both(TAKING, marks, (1,), value, None, None):
                self.assert_value(InvalidArguments, value, action, *told)
        for value in NO_TUPLES + ((3,), (-1,), (True,), (0, False), [0], (0, 3), (1.0,), (None,), ((1,),)):
            for action, told in self.both(TAKING, marks, (1,), (1,), value, None):
                self.assert_value(InvalidPlan, value, action, *told)
        for value in NO_TUPLES + ((True,), [1], (1, None), ("a",), (1.5,), ((1,),)):
            for action, told in self.both(TAKING, marks, (1,), (1,), (), value):
                self.assert_value(InvalidTaken, value, action, *told)

    def test_marks_of_an_equal_job(self):
        again = parse_job(format_job(TWO))
        self.assertEqual(outcome(again, Marks(TWO, (1,)), (4,), (), (2,), ()), ((5,), ()))


if __name__ == "__main__":
    unittest.main()
