"""Points 2, 3 (j), 44 and 45: all plans, and counted endings."""

import unittest
from collections import Counter
from itertools import islice
from random import Random

from reference import NO_INTEGERS, NO_TUPLES, Told, all_plans, job_by_chance, marked_by_chance, numbers_by_chance, takers
from retrysafe.campaigns import endings, plans, wrong_share
from retrysafe.errors import InvalidArguments, InvalidCount, InvalidMarks, InvalidValues
from retrysafe.jobs import Job
from retrysafe.marks import Marks
from retrysafe.meanings import plain_run
from retrysafe.runs import outcome
from retrysafe.studies import Study
from retrysafe.texts import parse_job

ADDING = parse_job("store s: x\njob\n  set x = x + 1\nend")
TWO = parse_job("store s: x y\ngiven n\njob\n  set x = n + x\n  set y = x + y\nend")
TAKING = parse_job("store s: x\njob\n  take x\nend")
SENDING = parse_job("store s: x\njob\n  send box x\nend")
EMPTY = Job((("s", ("x",)),), (), (), ())
NO_COUNTS = NO_INTEGERS + (-1, 61, 10 ** 30)


def job_to_count(random, executions=5):
    while True:
        job = job_by_chance(random, 6, executions)
        if not takers(job):
            return job


class TestPlans(Told):
    def test_the_example_of_the_document(self):
        self.assertEqual([list(plans(ADDING, 1)), sorted(endings(ADDING, Marks(ADDING), (0,), (), 2).items()),
                          wrong_share(ADDING, Marks(ADDING), (0,), (), 2)],
                         [[(), (0,), (1,)], [((1,), 3), ((2,), 3), ((3,), 1)], (4, 7)])

    def test_in_order(self):
        for job, most in ((ADDING, 6), (TWO, 5), (EMPTY, 5), (TAKING, 3), (parse_job("store s: x\njob\n" + "  set x = 1\n" * 9 + "end"), 3)):
            for failures in range(most):
                self.assertEqual(list(plans(job=job, failures=failures)), list(all_plans(job, failures)))

    def test_few_failures(self):
        self.assertEqual(list(plans(TWO, 0)), [()])
        self.assertEqual(list(plans(EMPTY, 0)), [()])
        self.assertEqual(list(plans(EMPTY, 60)), [(0,) * many for many in range(61)])

    def test_only_the_first_of_very_many(self):
        greatest = parse_job("store s: x\njob\n  repeat i in 1 2 3 4\n" + "    set x = i\n" * 4 + "  end\nend")
        found = list(islice(plans(greatest, 60), 2000))
        self.assertEqual(found, list(islice(all_plans(greatest, 3), 2000)))
        self.assertEqual(found[:20], [()] + [(at,) for at in range(17)] + [(0, 0), (0, 1)])

    def test_arguments_are_checked_with_the_first_element(self):
        for job, failures in ((None, 1), (SENDING, 1), (TWO, 61)):
            waiting = plans(job, failures)
            self.assertRaises(ValueError, next, waiting)
        for value in (None, 0, "job", ADDING.steps, SENDING, Job, Marks(ADDING)):
            self.assert_no_job(lambda: next(plans(value, None)))
        for value in NO_COUNTS:
            self.assert_value(InvalidCount, value, lambda: next(plans(TAKING, value)))
        self.assertEqual(next(plans(TAKING, 60)), ())


class TestEndings(Told):
    def test_beside_all_plans(self):
        random = Random(45)
        sizes = {}
        for _ in range(120):
            job = job_to_count(random)
            marks = Marks(job, marked_by_chance(random, job))
            values, arguments = numbers_by_chance(random, job)
            failures = random.randint(0, 4 if len(job) < 4 else 3)
            told = Counter(outcome(job, marks, values, arguments, plan, ())[0] for plan in all_plans(job, failures))
            found = endings(job=job, marks=marks, values=values, arguments=arguments, failures=failures)
            self.assertEqual(found, dict(told))
            self.assertIs(type(found), dict)
            total = sum(told.values())
            self.assertEqual(total, sum((len(job) + 1) ** many for many in range(failures + 1)))
            right = told[plain_run(job, values, arguments, ())]
            self.assertEqual(wrong_share(job=job, marks=marks, values=values, arguments=arguments, failures=failures),
                             (total - right, total))
            sizes[len(told)] = True
        self.assertGreater(len(sizes), 4)

    def test_sixty_failures(self):
        found = endings(ADDING, Marks(ADDING), (0,), (), 60)
        self.assertEqual((len(found), sum(found.values())), (61, 2 ** 61 - 1))
        # A failure at position 0 does not count: so many of the failures are at the end.
        self.assertEqual((found[1,], found[61,], found[60,]), (61, 1, 61))
        self.assertEqual(wrong_share(ADDING, Marks(ADDING), (0,), (), 60), (2 ** 61 - 1 - 61, 2 ** 61 - 1))
        self.assertEqual(endings(TWO, Marks(TWO, (0, 1)), (1, 2), (3,), 60), {(4, 6): (3 ** 61 - 1) // 2})

    def test_many_states(self):
        found = endings(TWO, Marks(TWO), (0, 0), (1,), 40)
        self.assertEqual(sum(found.values()), (3 ** 41 - 1) // 2)
        three = parse_job("store s: x y z\njob\n  set x = x + 1\n  set y = y + 1\n  set z = z + 1\nend")
        found = endings(three, Marks(three), (0, 0, 0), (), 30)
        # x is one more than the failures behind the first step, y of those behind the second, z of those at the end.
        self.assertEqual((found[1, 1, 1], found[31, 31, 31], len(found)), (31, 1, 5456))
        self.assertEqual(sum(found.values()), (4 ** 31 - 1) // 3)
        self.assertEqual(found[2, 1, 1], sum(many for many in range(1, 31)))

    def test_a_safe_job_whose_values_in_between_all_differ(self):
        job = parse_job("store s: x y z\nlocal t\njob\n  set t = z\n  set x = 2 * x + 1\n  set y = 3 * x + y\n  set x = 0\n"
                        "  set y = 0\n  set z = t + 1\nend")
        marks = Marks(job, (0,))
        self.assertTrue(Study(job, marks).is_safe)
        total = (7 ** 61 - 1) // 6
        self.assertEqual(endings(job, marks, (1, 2, 3), (), 60), {(0, 0, 4): total})
        self.assertEqual(wrong_share(job, marks, (1, 2, 3), (), 60), (0, total))
        self.assertEqual(wrong_share(job, Marks(job), (1, 2, 3), (), 0), (0, 1))

    def test_long_numbers(self):
        job = parse_job(f"store s: x\njob\n  set x = {10 ** 99} * x + {3 ** 200}\nend")
        found = endings(job, Marks(job), (7,), (), 60)
        self.assertEqual((len(found), sum(found.values())), (61, 2 ** 61 - 1))
        self.assertEqual(found[outcome(job, Marks(job), (7,), (), (1,) * 60, ())[0]], 1)

    def test_a_job_without_steps(self):
        self.assertEqual(endings(EMPTY, Marks(EMPTY), (5,), (), 60), {(5,): 61})
        self.assertEqual(wrong_share(EMPTY, Marks(EMPTY), (5,), (), 0), (0, 1))

    def test_dicts_are_new(self):
        endings(ADDING, Marks(ADDING), (0,), (), 1).clear()
        self.assertEqual(len(endings(ADDING, Marks(ADDING), (0,), (), 1)), 2)

    def test_errors_in_order(self):
        marks = Marks(TWO)
        for action in (endings, wrong_share):
            for value in (None, 0, "job", TWO.steps, TAKING, SENDING, Job, marks):
                self.assert_no_job(action, value, None, None, None, None)
            for value in (None, (), (0,), TWO, Marks(ADDING), Marks):
                self.assert_value(InvalidMarks, value, action, TWO, value, None, None, None)
            for value in NO_TUPLES + ((), (1,), (1, 2, 3), (True, 1), (1, None), (1.0, 2)):
                self.assert_value(InvalidValues, value, action, TWO, marks, value, None, None)
            for value in NO_TUPLES + ((), (1, 2), (True,), (None,)):
                self.assert_value(InvalidArguments, value, action, TWO, marks, (1, 2), value, None)
            for value in NO_COUNTS:
                self.assert_value(InvalidCount, value, action, TWO, marks, (1, 2), (3,), value)


if __name__ == "__main__":
    unittest.main()
