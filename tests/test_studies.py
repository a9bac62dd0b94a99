"""Points 2, 3 (d, e), 16 to 23: studies."""

import unittest
from random import Random

from reference import (
    NO_INTEGERS, NO_TUPLES, SlowRun, Told, all_choices, is_right, job_by_chance, marked_by_chance,
    numbers_by_chance, plan_by_chance, slow_moments, slow_vectors, spanning_runs, taken_by_chance, takers)
from retrysafe.errors import InvalidCount, InvalidFar, InvalidMarks, InvalidPosition, InvalidRun, NoValue
from retrysafe.jobs import Job
from retrysafe.marks import Marks
from retrysafe.runs import outcome
from retrysafe.spaces import Space
from retrysafe.studies import Study, harmful, least_failures, right_choices
from retrysafe.texts import format_job, parse_job

TAKING = parse_job("store s: x\nlocal t\njob\n  take t\n  set x = t + x\nend")
EMPTY = Job((("s", ("x",)),), ("n",), ("t",), ())
SENDING = parse_job("store s: x\njob\n  send box x\nend")
# Each attempt moves the values on by one; what is moved into e is told only at the third one.
SHIFTING = parse_job("store s: a b c d e\njob\n  atomic\n    set a = 0\n    set b = 0\n    set c = 0\n    set d = 0\n  end\n"
                     "  atomic\n    set d = c\n    set c = b\n    set b = a\n    set a = 1\n  end\n  set e = d\n"
                     "  atomic\n    set a = 0\n    set b = 0\n    set c = 0\n    set d = 0\n  end\nend")


def study(job, places=(), failures=None):
    return Study(job, Marks(job, places), failures)


def total(constant, **factors):
    """A sum."""
    return "sum", constant, tuple((factor, name) for name, factor in sorted(factors.items()))


def greatest():
    """A job with 16 executions, two that take, and as many labels as there can be."""
    first = ("atomic", (("take", "t"), ("set", "u", total(0, a=1, t=1)), ("set", "v", total(1)),
                        ("set", "d", total(0, g=1, t=1))))
    second = ("atomic", (("take", "u"), ("set", "t", total(0, u=1)), ("set", "v", total(0, u=2)),
                         ("set", "e", total(0, h=1, u=2))))
    body = tuple(("atomic", (("set", "t", total(0, b=at, t=1)), ("set", "u", total(0, a=1, u=-1)),
                             ("set", "v", total(0, i=1, t=1, v=1)), ("set", name, total(at, i=2, e=3, t=1))))
                 for at, name in ((2, "a"), (3, "b"), (5, "c")))
    last = (("set", "a", total(0, a=1, k=1)), ("set", "b", total(0, b=-1, t=1, v=1)))
    steps = (first, second, ("repeat", "i", (1, -2, 3, 7), body)) + last
    return Job((("s", ("a", "b", "c", "d", "e")),), ("g", "h", "k"), ("t", "u", "v"), steps)


class Checked(Told):
    def assert_runs_refute(self, job, marked, runs, failures=None):
        """For each choice of moments one of some runs ends otherwise; `outcome` tells the values."""
        self.assertIs(type(runs), tuple)
        self.assertTrue(0 < len(runs) <= 400)
        for values, arguments, plan, taken in runs:
            self.assertLessEqual(len(plan), 2000 if failures is None else failures)
            ended = SlowRun(job, marked, values, arguments, taken).follow(plan)
            self.assertEqual(outcome(job, Marks(job, marked), values, arguments, plan, taken)[0],
                             tuple(ended.durable.values()))
        for choice in all_choices(job):
            self.assertFalse(all(is_right(job, marked, run, choice) for run in runs), choice)


class TestExamples(Checked):
    def test_the_example_of_the_document(self):
        bare, marked = study(TAKING), study(TAKING, (1,))
        self.assertIs(bare.is_safe, False)
        self.assertEqual(least_failures(TAKING, Marks(TAKING)), 1)
        self.assertEqual(harmful(TAKING, Marks(TAKING)), (2,))
        self.assertEqual(marked.moments, (1,))
        self.assertEqual(marked.labels[-3:], (("seen", 0, 0), ("seen", 0, 1), ("one",)))
        self.assertEqual(marked.equations(2, 2), ((1, -1, 0, 0, -1, 0), (0, 0, 1, -1, 0, 0)))
        self.assertEqual(right_choices(TAKING, Marks(TAKING, (1,)), ((0,), (), (2,), (5, 7))), [(1,)])

    def test_marking_more_can_make_a_job_unsafe(self):
        job = parse_job("store s: x\njob\n  set x = x + 1\n  set x = 7\nend")
        self.assertEqual([study(job, places).is_safe for places in [(), (0,), (1,), (0, 1)]], [True, True, False, True])

    def test_arguments_by_name(self):
        found = Study(job=TAKING, marks=Marks(TAKING), failures=0)
        self.assertEqual(found.space(far=0, position=0), study(TAKING).space(0, 0))
        self.assertEqual(found.equations(far=0, position=0), (~found.space(0, 0)).basis)
        self.assertEqual(right_choices(job=TAKING, marks=Marks(TAKING), run=((0,), (), (), (5,))), [(0,), (1,)])
        self.assertEqual(least_failures(job=TAKING, marks=Marks(TAKING, (0, 1))), None)
        self.assertEqual(harmful(job=TAKING, marks=Marks(TAKING, (0, 1))), ())


class TestLabels(Checked):
    def test_order(self):
        job = parse_job("store p: x y\nstore q: z\ngiven n m\nlocal t u\njob\n  take u\n  repeat i in 1 2\n    atomic\n"
                        "      set u = i\n      set t = i\n    end\n  end\n  take x\n  set u = t\nend")
        self.assertEqual(study(job, (0, 1, 2, 3)).labels, (
            ("now", "x"), ("now", "y"), ("now", "z"), ("first", "x"), ("first", "y"), ("first", "z"), ("given", "n"),
            ("given", "m"), ("local", "t"), ("local", "u"), ("seen", 0, 0), ("seen", 0, 1), ("seen", 0, 2), ("seen", 0, 3),
            ("seen", 0, 4), ("seen", 3, 3), ("seen", 3, 4), ("kept", 0, "u"), ("kept", 1, "t"), ("kept", 1, "u"),
            ("kept", 2, "t"), ("kept", 2, "u"), ("one",)))
        self.assertEqual(study(job, (1,)).labels[-2:], (("seen", 3, 4), ("one",)))

    def test_a_job_without_steps(self):
        found = study(EMPTY)
        self.assertEqual(found.labels, (("now", "x"), ("first", "x"), ("given", "n"), ("local", "t"), ("one",)))
        self.assertEqual((found.moments, found.is_safe, found.wrong_runs), ((), True, ()))
        self.assertEqual(found.space(0, 0).basis, ((1, 1, 0, 0, 0), (0, 0, 1, 0, 0), (0, 0, 0, 0, 1)))
        self.assertEqual(found.equations(0, 0), ((1, -1, 0, 0, 0), (0, 0, 0, 1, 0)))
        self.assertEqual((least_failures(EMPTY, Marks(EMPTY)), harmful(EMPTY, Marks(EMPTY))), (None, ()))
        self.assertEqual(right_choices(EMPTY, Marks(EMPTY), ((1,), (2,), (0, 0), ())), [()])


class TestSpaces(Checked):
    def test_all_states_and_some_failures(self):
        random = Random(20)
        for _ in range(25):
            job = job_by_chance(random, 5, 4)
            marked = marked_by_chance(random, job)
            for failures in range(3):
                found = study(job, marked, failures)
                for (far, position), vectors in slow_vectors(job, marked, failures).items():
                    space = Space(len(found.labels), sorted(vectors))
                    self.assertEqual(found.space(far, position), space)
                    self.assertEqual(found.equations(far, position), (~space).basis)

    def test_any_number_of_failures(self):
        random = Random(21)
        for _ in range(40):
            job = job_by_chance(random, 7, 10)
            marked = marked_by_chance(random, job)
            free, many = study(job, marked), study(job, marked, 60)
            for far in range(len(job) + 1):
                for position in range(far + 1):
                    self.assertEqual(free.space(far, position), many.space(far, position))

    def test_real_runs_are_within(self):
        random = Random(22)
        for _ in range(60):
            job = job_by_chance(random, 9, 16)
            marked = marked_by_chance(random, job)
            found = study(job, marked)
            values, arguments = numbers_by_chance(random, job, 99)
            run = SlowRun(job, marked, values, arguments, [random.randint(-99, 99) for _ in range(99)])
            for position in [random.randint(0, len(job)) for _ in range(8)] + [len(job)]:
                while run.here < position:
                    run.step()
                    self.assertIn(run.vector(), found.space(run.far, run.here))
                run.fail()
                self.assertIn(run.vector(), found.space(run.far, run.here))

    def test_states_that_no_run_comes_to(self):
        found = study(TAKING, (), 0)
        self.assertEqual(found.space(2, 1), Space(len(found.labels)))
        self.assertEqual(len(found.equations(1, 0)), len(found.labels))
        self.assertEqual(len(study(TAKING, (), 1).space(1, 0)), 3)

    def test_an_unsafe_job_is_looked_at_to_the_end(self):
        found = study(SHIFTING)
        self.assertEqual((found.is_safe, least_failures(SHIFTING, Marks(SHIFTING))), (True, None))
        found = study(SHIFTING, (3,))
        self.assertEqual((found.is_safe, least_failures(SHIFTING, Marks(SHIFTING, (3,)))), (False, 1))
        self.assertEqual(found.space(4, 2), study(SHIFTING, (3,), 60).space(4, 2))
        self.assertGreater(len(study(SHIFTING, (0, 3)).space(4, 0)), len(study(SHIFTING, (0, 3), 2).space(4, 0)))

    def test_every_call_returns_an_equal_space(self):
        found = study(TAKING)
        self.assertEqual(found.space(2, 2), found.space(2, 2))
        self.assertEqual(found.equations(2, 1), found.equations(2, 1))

    def test_wrong_states(self):
        for found in (study(TAKING), study(TAKING, (1,), 0)):
            for action in (found.space, found.equations):
                for value in NO_INTEGERS + (-1, 3, 10 ** 30, found):
                    self.assert_value(InvalidFar, value, action, value, 0)
                    self.assert_value(InvalidFar, value, action, value, None)
                    self.assert_value(InvalidPosition, value, action, 2, value)
                self.assert_value(InvalidPosition, 2, action, 1, 2)


class TestSafe(Checked):
    def test_moments_and_wrong_runs_against_some_failures(self):
        random = Random(17)
        safe = 0
        for _ in range(60):
            job = job_by_chance(random, 5, 4)
            marked = marked_by_chance(random, job)
            for failures in range(3):
                alive = slow_moments(job, marked, failures)
                found = study(job, marked, failures)
                self.assertIs(found.is_safe, len(alive) > 0)
                if alive:
                    safe += 1
                    self.assertEqual((found.moments, found.wrong_runs), (alive[0], ()))
                else:
                    self.assertIsNone(found.moments)
                    self.assert_runs_refute(job, marked, found.wrong_runs, failures)
        self.assertTrue(30 < safe < 170, safe)

    def test_wrong_runs_against_any_number(self):
        random = Random(18)
        wrong = 0
        for _ in range(60):
            job = job_by_chance(random, 9, 16)
            marked = marked_by_chance(random, job)
            found = study(job, marked)
            if not found.is_safe:
                wrong += 1
                self.assert_runs_refute(job, marked, found.wrong_runs)
        self.assertGreater(wrong, 10)

    def test_all_places_marked(self):
        random = Random(19)
        for _ in range(60):
            job = job_by_chance(random, 9, 16)
            found = study(job, tuple(range(job.places)))
            self.assertTrue(found.is_safe)
            self.assertEqual(found.moments, tuple(takers(job)))

    def test_takes(self):
        twice = parse_job("store p: x\nstore q: y\njob\n  take x\n  set y = x\nend")
        self.assertEqual([study(twice, places).moments for places in ((), (0,), (1,), (0, 1))],
                         [(0,), (0,), None, (0,)])
        two = parse_job("store s: x y z\nlocal t u\njob\n  take t\n  take u\n  set x = t + x\n  set y = u\n  set z = u\nend")
        self.assertEqual(study(two, (2,)).moments, (2, 1))
        self.assertEqual(study(two, (2, 3)).moments, None)
        self.assertEqual(study(two, (2, 3, 4)).moments, None)
        self.assertEqual(study(two, (1, 2, 3, 4)).moments, (2, 1))

    def test_seen_by_a_step_that_is_passed_over(self):
        job = parse_job("store s: x y\nlocal t\njob\n  take t\n  set y = 0\n  set x = t\nend")
        self.assertEqual(study(job, (2,)).moments, (2,))
        self.assertEqual(study(job, (1, 2)).moments, (2,))
        self.assertEqual(study(job, (1,)).moments, (0,))

    def test_numbers_that_are_alike_for_many_primes(self):
        # A prime that looks like 0 must not make an unsafe job look safe.
        for number in (2 ** 61 - 1, 10 ** 9 + 7, 998244353, 2 ** 31 - 1, 10 ** 99 + 289):
            job = parse_job(f"store s: x\njob\n  set x = {number} * x\nend")
            self.assertFalse(study(job).is_safe)
            shift = parse_job(f"store s: x\njob\n  set x = x + {number}\nend")
            self.assert_runs_refute(shift, (), study(shift).wrong_runs)

    def test_steps_that_leave_one_value_as_it_is(self):
        # Whatever value a run begins with so that it goes wrong: for a few values nothing does.
        for value in (1, 2, 3, 70, 144, 216):
            job = parse_job(f"store s: x y\njob\n  take y\n  set x = 2 * x - {value}\nend")
            self.assert_runs_refute(job, (), study(job).wrong_runs)
            self.assert_runs_refute(job, (0,), study(job, (0,)).wrong_runs)
            self.assertTrue(study(job, (1,)).is_safe)

    def test_failures_in_limits(self):
        marks = Marks(SHIFTING, (0,))
        self.assertEqual([Study(SHIFTING, marks, failures).is_safe for failures in (0, 1, 2, 3, 4, 60, None)],
                         [True, True, True, False, False, False, False])
        self.assertEqual(least_failures(SHIFTING, marks), 3)
        self.assertEqual(harmful(SHIFTING, marks), ())
        found = Study(SHIFTING, marks, 3)
        self.assertEqual({len(run[2]) for run in found.wrong_runs}, {3})
        self.assert_runs_refute(SHIFTING, (0,), found.wrong_runs, 3)

    def test_the_greatest_job(self):
        job = greatest()
        self.assertEqual((len(job), len(takers(job))), (16, 2))
        for places in ((), (0, 3), (1, 2, 4, 5, 6), (0, 1, 3, 4, 5, 6, 7), tuple(range(8))):
            found = study(job, places)
            self.assertEqual(found.is_safe, least_failures(job, Marks(job, places)) is None)
            run = SlowRun(job, places, (1, 2, 3, 4, 5), (6, 7, 8), range(99)).follow((16, 9, 12, 3))
            self.assertIn(run.vector(), found.space(16, 16))
            if not found.is_safe:
                self.assert_runs_refute(job, places, found.wrong_runs)
        self.assertEqual(len(study(job, tuple(range(8))).labels), 5 + 5 + 3 + 3 + 16 + 15 + 3 * 2 + 12 * 3 + 1)

    def test_studies_are_constant_and_not_iterated(self):
        found = study(TAKING)
        for name in ("labels", "is_safe", "moments", "wrong_runs"):
            with self.assertRaises(AttributeError):
                setattr(found, name, ())
        for action in (iter, len, lambda told: told[0]):
            self.assertRaises(TypeError, action, found)
        self.assertFalse(found == study(TAKING).labels)

    def test_errors_in_order(self):
        for value in (None, 0, "job", TAKING.steps, SENDING, Job, Marks(TAKING)):
            for action in (Study, least_failures, harmful):
                self.assert_no_job(action, value, None)
            self.assert_no_job(Study, value, None, "x")
            self.assert_no_job(right_choices, value, None, None)
        for value in (None, (), (0,), TAKING, Marks(EMPTY), Marks(SENDING), Marks):
            for action in (Study, least_failures, harmful):
                self.assert_value(InvalidMarks, value, action, TAKING, value)
            self.assert_value(InvalidMarks, value, Study, TAKING, value, True)
            self.assert_value(InvalidMarks, value, right_choices, TAKING, value, None)
        for value in NO_INTEGERS + (-1, 61, 10 ** 30, Marks(TAKING)):
            if value is not None:
                self.assert_value(InvalidCount, value, Study, TAKING, Marks(TAKING), value)

    def test_marks_of_an_equal_job(self):
        again = parse_job(format_job(TAKING))
        self.assertTrue(Study(again, Marks(TAKING, (1,)), 60).is_safe)


class TestRightChoices(Checked):
    def test_by_chance(self):
        random = Random(23)
        for _ in range(150):
            job = job_by_chance(random, 7, 8)
            marked = marked_by_chance(random, job)
            values, arguments = numbers_by_chance(random, job, 2)
            plan = plan_by_chance(random, job, 3)
            run = (values, arguments, plan, taken_by_chance(random, 8, 2))
            told = [choice for choice in all_choices(job) if is_right(job, marked, run, choice)]
            self.assertEqual(right_choices(job, Marks(job, marked), run), told)

    def test_every_list_is_new(self):
        told = (TAKING, Marks(TAKING), ((0,), (), (), (5,)))
        right_choices(*told).append(7)
        self.assertEqual(right_choices(*told), [(0,), (1,)])

    def test_wrong_runs(self):
        marks = Marks(TAKING)
        right = ((0,), (), (2,), (5, 7))
        wrongs = [right[:at] + (value,) + right[at + 1:] for at in range(4)
                  for value in NO_TUPLES + ((True,), (None,), (1.0,), ((1,),))]
        wrongs += [right[:3], right + ((),), list(right), None, "runs", 0, ((0, 1),) + right[1:], ((),) + right[1:],
                   right[:1] + ((1,),) + right[2:], right[:2] + ((3,),) + right[3:], right[:2] + ((-1,),) + right[3:]]
        for value in wrongs:
            self.assert_value(InvalidRun, value, right_choices, TAKING, marks, value)

    def test_values_that_do_not_suffice(self):
        self.assert_raised(NoValue, {"position": 0}, right_choices, TAKING, Marks(TAKING), ((0,), (), (2,), (5,)))


class TestHarmful(Checked):
    def test_by_chance(self):
        random = Random(24)
        for _ in range(60):
            job = job_by_chance(random, 6, 6)
            marked = marked_by_chance(random, job)
            told = []
            for position in range(len(job) + 1):
                runs = [*spanning_runs(job, marked, ()), *spanning_runs(job, marked, (position,))]
                if not any(all(is_right(job, marked, run, choice) for run in runs) for choice in all_choices(job)):
                    told.append(position)
            self.assertEqual(harmful(job, Marks(job, marked)), tuple(told))

    def test_every_position_on_its_own(self):
        # Each failure alone is right for some moments, but no moment is right for all of them.
        alone = parse_job("store p: x\nlocal t\njob\n  take t\n  repeat i in 2 3 1\n    set x = 3 * i + t - x\n  end\nend")
        self.assertEqual(harmful(alone, Marks(alone, (2,))), ())
        self.assertEqual(least_failures(alone, Marks(alone, (2,))), 1)
        self.assert_runs_refute(alone, (2,), study(alone, (2,), 1).wrong_runs, 1)
        job = parse_job("store s: x\njob\n  set x = x + 1\n  set x = x + 1\n  set x = 2 * x\nend")
        self.assertEqual(harmful(job, Marks(job)), (1, 2, 3))
        self.assertEqual(harmful(job, Marks(job, (0,))), (2, 3))
        self.assertEqual(harmful(job, Marks(job, (0, 1, 2))), ())
        self.assertEqual(harmful(job, Marks(job, (1,))), (1, 2, 3))


class TestLeastFailures(Checked):
    def test_against_studies(self):
        random = Random(25)
        seen = {}
        for _ in range(150):
            job = job_by_chance(random, 6, 8)
            marks = Marks(job, marked_by_chance(random, job))
            least = least_failures(job, marks)
            seen[least] = True
            self.assertIs(Study(job, marks).is_safe, least is None)
            if least is not None:
                self.assertFalse(Study(job, marks, least).is_safe)
                self.assertTrue(Study(job, marks, least - 1).is_safe)
        self.assertTrue(None in seen and 1 in seen)

    def test_two_failures(self):
        job = parse_job("store p: x y\nlocal t\njob\n  repeat i in 1 1\n    set y = 2 * t - y - 1\n    set y = t + 2\n"
                        "  end\n  set x = 2 * t + y + 2\nend")
        self.assertEqual(least_failures(job, Marks(job, (2, 3))), 2)
        self.assertEqual(slow_moments(job, (2, 3), 1), [()])
        self.assertEqual(slow_moments(job, (2, 3), 2), [])


if __name__ == "__main__":
    unittest.main()
