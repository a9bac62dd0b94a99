"""Points 2, 11, 12 and 13: marks."""

import unittest
from random import Random

from reference import NO_INTEGERS, NO_TUPLES, SlowRun, Told, job_by_chance, marked_by_chance
from retrysafe.errors import InvalidCosts, InvalidFar, InvalidMarks
from retrysafe.jobs import Job
from retrysafe.marks import Marks, cost, passed
from retrysafe.spaces import Space
from retrysafe.texts import format_job, parse_job

JOB = parse_job("store s: x y\njob\n  set x = x + 1\n  repeat i in 1 2\n    set y = i + y\n  end\nend")
EQUAL = parse_job(format_job(JOB))
OTHER = parse_job("store s: x y\njob\n  set x = x + 2\n  repeat i in 1 2\n    set y = i + y\n  end\nend")
SENDING = parse_job("store s: x\njob\n  send box x\n  set x = 1\nend")


class TestMarks(Told):
    def test_places(self):
        for places in ((2, 0), [2, 0], (0, 2)):
            marks = Marks(JOB, places)
            self.assertEqual(marks.places, (0, 2))
            self.assertEqual((list(marks), len(marks), marks.job), ([0, 2], 2, JOB))
        self.assertEqual(Marks(JOB).places, ())
        self.assertEqual(Marks(job=JOB, places=[1]).places, (1,))
        self.assertEqual(Marks(SENDING, (0, 1)).places, (0, 1))
        self.assertEqual(Marks(Job((("s", ("x",)),), (), (), ()), []).places, ())

    def test_in(self):
        marks = Marks(JOB, (0, 1))
        self.assertIs(0 in marks, True)
        self.assertIs(1 in marks, True)
        for value in (2, -1, True, False, 0.0, 1.0, "0", None, (0,), [0], {}, marks, JOB):
            self.assertIs(value in marks, False)

    def test_iteration(self):
        marks = Marks(JOB, (2, 1, 0))
        self.assertEqual([place for place in marks], [0, 1, 2])
        self.assertEqual([(one, other) for one in marks for other in marks][3:5], [(1, 0), (1, 1)])
        self.assertEqual(list(Marks(JOB)), [])
        with self.assertRaises(TypeError):
            marks[0]

    def test_operators(self):
        one, other = Marks(JOB, (0, 1)), Marks(EQUAL, (2, 1))
        self.assertEqual((one | other).places, (0, 1, 2))
        self.assertEqual((one & other).places, (1,))
        self.assertEqual((one - other).places, (0,))
        self.assertEqual((other - one).places, (2,))
        self.assertEqual((one - one).places, ())
        self.assertEqual(((one | other).job, one.places, other.places), (JOB, (0, 1), (1, 2)))

    def test_is_within(self):
        one, all_places = Marks(JOB, (0, 2)), Marks(EQUAL, (0, 1, 2))
        self.assertIs(one.is_within(all_places), True)
        self.assertIs(one.is_within(other=one), True)
        self.assertIs(Marks(JOB).is_within(Marks(JOB)), True)
        self.assertIs(all_places.is_within(one), False)
        self.assertIs(one.is_within(Marks(JOB)), False)

    def test_equality(self):
        marks = Marks(JOB, (0, 2))
        self.assertTrue(marks == Marks(EQUAL, [2, 0]))
        self.assertFalse(marks != Marks(EQUAL, [2, 0]))
        for other in (Marks(JOB, (0,)), Marks(JOB), Marks(OTHER, (0, 2)), (0, 2), [0, 2], None, JOB, Space(1)):
            self.assertFalse(marks == other)
            self.assertTrue(marks != other)

    def test_what_is_no_job(self):
        for value in (None, 0, "job", (), JOB.steps, [JOB], Job, Marks(JOB)):
            self.assert_no_job(Marks, value)
            self.assert_no_job(Marks, value, 7)

    def test_wrong_places(self):
        for value in [[wrong] for wrong in NO_INTEGERS] + [(0, wrong) for wrong in NO_INTEGERS]:
            self.assert_value(InvalidMarks, value, Marks, JOB, value)
        for value in (None, 0, "", "01", {0}, {0: 0}, iter([0]), (0, 0), [1, 2, 1], (3,), (-1,), (0, 3), (True,), [False],
                      ((0,),), ([0],), (0, None), Marks(JOB, (0,))):
            self.assert_value(InvalidMarks, value, Marks, JOB, value)

    def test_wrong_operands(self):
        marks = Marks(JOB, (0,))
        for value in (None, 0, True, (0,), [0], {0}, "0", JOB, Marks, Marks(OTHER, (0,)), Marks(SENDING)):
            for action in (marks.__or__, marks.__and__, marks.__sub__, marks.is_within):
                self.assert_value(InvalidMarks, value, action, value)
        with self.assertRaises(InvalidMarks):
            marks | (0,)
        with self.assertRaises(TypeError):
            (0,) - marks

    def test_constancy(self):
        places = [1, 0]
        marks = Marks(JOB, places)
        places.append(2)
        self.assertEqual(marks.places, (0, 1))
        self.assertEqual(places, [1, 0, 2])
        for name in ("places", "job"):
            with self.assertRaises(AttributeError):
                setattr(marks, name, ())


class TestPassed(Told):
    def test_the_example_of_the_document(self):
        self.assertEqual(JOB.executions, ((0, None), (2, 1), (2, 2)))
        self.assertEqual(passed(JOB, Marks(JOB, (1,)), 2), (1,))
        self.assertEqual(passed(JOB, Marks(JOB, (0, 2)), 2), (0, 1))

    def test_marked_steps(self):
        marks = Marks(JOB, (0, 2))
        self.assertEqual([passed(JOB, marks, far) for far in range(4)], [(), (0,), (0, 1), (0, 1, 2)])
        self.assertEqual([passed(JOB, Marks(JOB), far) for far in range(4)], [()] * 4)

    def test_rounds(self):
        job = parse_job("store s: x\njob\n  repeat i in 5 5 6\n    set x = i\n    set x = i + x\n  end\n  set x = 0\nend")
        rounds = [passed(job, Marks(job, (0,)), far) for far in range(8)]
        self.assertEqual(rounds, [(), (), (0, 1), (0, 1), (0, 1, 2, 3), (0, 1, 2, 3), tuple(range(6)), tuple(range(6))])
        within = [passed(job, Marks(job, (2,)), far) for far in range(8)]
        self.assertEqual(within, [(), (), (1,), (1,), (1, 3), (1, 3), (1, 3, 5), (1, 3, 5)])
        both = [passed(job, Marks(job, (0, 1)), far) for far in range(8)]
        self.assertEqual(both, [(), (0,), (0, 1), (0, 1, 2), (0, 1, 2, 3), (0, 1, 2, 3, 4), tuple(range(6)), tuple(range(6))])
        self.assertEqual(passed(job, Marks(job, (0, 1, 2, 3)), 7), tuple(range(7)))

    def test_jobs_that_send(self):
        self.assertEqual(passed(job=SENDING, marks=Marks(SENDING, (0,)), far=1), (0,))

    def test_jobs_without_steps(self):
        job = Job((("s", ("x",)),), (), (), ())
        self.assertEqual(passed(job, Marks(job), 0), ())

    def test_by_chance(self):
        random = Random(13)
        for _ in range(100):
            job = job_by_chance(random, 9, 16)
            marked = marked_by_chance(random, job)
            run = SlowRun(job, marked, (0,) * len(job.variables), (0,) * len(job.arguments), ())
            for run.far in range(len(job) + 1):
                told = tuple(e for e in range(len(job)) if run.is_passed(e))
                self.assertEqual(passed(job, Marks(job, marked), run.far), told)

    def test_errors_in_order(self):
        self.assertEqual(passed(EQUAL, Marks(JOB, (0,)), 1), (0,))
        for value in (None, (), (0,), JOB, Marks(OTHER, (0,)), Marks(SENDING), Marks):
            self.assert_value(InvalidMarks, value, passed, JOB, value, 1)
            self.assert_value(InvalidMarks, value, passed, JOB, value, None)
        for value in NO_INTEGERS + (-1, 4, 10 ** 30, Marks(JOB)):
            self.assert_value(InvalidFar, value, passed, JOB, Marks(JOB), value)


class TestCost(Told):
    def test_costs(self):
        self.assertEqual(cost(Marks(JOB, (0, 1)), (5, 2, 1)), 7)
        self.assertEqual(cost(Marks(JOB, (0, 2))), 2)
        self.assertEqual(cost(marks=Marks(JOB, (1, 2)), costs=None), 2)
        self.assertEqual(cost(Marks(JOB, (0, 1, 2)), costs=(100, 1, 100)), 201)
        self.assertEqual((cost(Marks(JOB), (1, 2, 3)), cost(Marks(SENDING, (1,)), (7, 8))), (0, 8))

    def test_errors_in_order(self):
        for value in (None, (0,), [0], 0, JOB, "0", Marks):
            self.assert_value(InvalidMarks, value, cost, value)
            self.assert_value(InvalidMarks, value, cost, value, (0,))
        for value in NO_TUPLES[1:] + ((), (1, 2), (1, 2, 3, 4), (0, 1, 1), (1, 101, 1), (1, 1, -1), (True, 1, 1), (1, 1.0, 1),
                                      (1, None, 1), [1, 2, 3], "123", {1, 2, 3}, Marks(JOB)):
            self.assert_value(InvalidCosts, value, cost, Marks(JOB), value)


if __name__ == "__main__":
    unittest.main()
