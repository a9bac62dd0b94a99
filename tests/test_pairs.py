"""Points 2, 3 (b), 29 and 30: two runners."""

import unittest
from random import Random

from reference import (
    NO_TUPLES, SlowRun, Told, job_by_chance, marked_by_chance, numbers_by_chance, plan_by_chance, takers)
from retrysafe.errors import InvalidCosts, InvalidFar, InvalidMarks, InvalidPosition, InvalidRun
from retrysafe.jobs import Job
from retrysafe.marks import Marks, cost
from retrysafe.meanings import plain_run
from retrysafe.pairs import Pair, fewest_for_two, pair_outcome
from retrysafe.runs import outcome
from retrysafe.sieves import priced_choices
from retrysafe.spaces import Space
from retrysafe.studies import Study
from retrysafe.texts import format_job, parse_job

MOVING = parse_job("store s: x y\njob\n  set x = y\n  set y = 0\nend")
ADDING = parse_job("store s: x\njob\n  set x = x + 1\nend")
COPYING = parse_job("store s: x\nlocal t\njob\n  set t = x\n  set x = t + 1\nend")
TAKING = parse_job("store s: x\njob\n  take x\nend")
SENDING = parse_job("store s: x\njob\n  send box x\nend")
SEVEN = parse_job("store s: x\njob\n" + "  set x = 1\n" * 7 + "end")
SIX = parse_job("store s: x\nlocal t\njob\n  repeat i in 1 2 3\n    set t = i + x\n    set x = t\n  end\nend")
EMPTY = Job((("s", ("x",)),), ("n",), ("t",), ())
STEP, FAIL = ((0, "step"), (1, "step")), ((0, "fail"), (1, "fail"))


class Two:
    """Two runners, as point 29 tells them."""

    def __init__(self, job, marked, values, arguments):
        self.runners = [SlowRun(job, marked, values, arguments, ()) for _ in range(2)]
        self.runners[1].durable = self.runners[0].durable
        self.runners[1].kept = self.runners[0].kept

    def move(self, runner, word):
        getattr(self.runners[runner], word)()
        far = max(one.far for one in self.runners)
        for one in self.runners:
            one.far = far

    def follow(self, schedule):
        for runner, word in schedule:
            self.move(runner, word)
        return self

    def state(self):
        return self.runners[0].far, self.runners[0].here, self.runners[1].here

    def durable(self):
        return tuple(self.runners[0].durable.values())

    def may_end(self):
        far, *positions = self.state()
        length = len(self.runners[0].steps)
        return length in positions and all(position in (0, length) for position in positions)

    def vector(self):
        one, other = self.runners
        behind = 2 * len(one.durable) + len(one.given) + len(one.temps)
        return one.vector()[:behind] + tuple(other.temps.values()) + one.vector()[behind:]


def starts(job):
    """Values and arguments of which all others are sums of multiples."""
    many, size = len(job.variables), len(job.variables) + len(job.arguments)
    for at in range(-1, size):
        units = tuple(int(at == other) for other in range(size))
        yield units[:many], units[many:]


def schedules(length, most):
    """All schedules with at most so many moves, but for failures at position 0."""
    rows = [((), (0, 0))]
    for schedule, positions in rows:
        yield schedule
        if len(schedule) < most:
            for runner in (0, 1):
                one, other = positions[runner], positions[1 - runner]
                told = [("step", one + 1)] if one < length else []
                for word, behind in told + ([("fail", 0)] if one > 0 else []):
                    rows.append((schedule + ((runner, word),), (behind, other) if runner == 0 else (other, behind)))


def schedule_by_chance(random, length, most=30):
    schedule, positions = [], [0, 0]
    failing = random.choice((0.1, 0.2, 0.4))
    for _ in range(random.randint(0, most)):
        runner = random.randint(0, 1)
        word = "fail" if positions[runner] == length or random.random() < failing else "step"
        positions[runner] = positions[runner] + 1 if word == "step" else 0
        schedule.append((runner, word))
    return tuple(schedule)


def job_for_two(random, places=6, executions=6):
    while True:
        job = job_by_chance(random, places, executions)
        if not takers(job):
            return job


class Checked(Told):
    def assert_wrong(self, job, marked, run):
        """A run that may end and ends wrong."""
        values, arguments, schedule = run
        two = Two(job, marked, values, arguments).follow(schedule)
        self.assertTrue(two.may_end())
        self.assertNotEqual(two.durable(), plain_run(job, values, arguments, ()))
        self.assertEqual(pair_outcome(job, Marks(job, marked), run), two.durable())


class TestPair(Checked):
    def test_the_example_of_the_document(self):
        self.assertEqual([Pair(MOVING, Marks(MOVING, (0,))).is_safe, Pair(MOVING, Marks(MOVING)).wrong_run is None,
                          fewest_for_two(MOVING)[1].places], [True, False, (0,)])
        run = ((1, 2), (), (STEP[0], STEP[0], STEP[1], STEP[1]))
        self.assertEqual(pair_outcome(MOVING, Marks(MOVING), run), (0, 0))

    def test_labels(self):
        job = parse_job("store p: x\nstore q: y\ngiven n\nlocal t u\njob\n  atomic\n    set u = x\n    set t = n\n    set x = u\n"
                        "  end\n  repeat i in 1 2\n    set u = i\n  end\nend")
        found = Pair(job, Marks(job, (0, 2))).labels
        self.assertEqual(found, (("now", "x"), ("now", "y"), ("first", "x"), ("first", "y"), ("given", "n"),
                                 ("local", "t", 0), ("local", "u", 0), ("local", "t", 1), ("local", "u", 1),
                                 ("kept", 0, "t"), ("kept", 0, "u"), ("kept", 1, "u"), ("kept", 2, "u"), ("one",)))
        self.assertEqual(Pair(job, Marks(job, (1,))).labels, found[:9] + (("one",),))
        self.assertIs(type(found), tuple)

    def test_spaces_of_short_jobs(self):
        random = Random(291)
        for _ in range(30):
            job = job_for_two(random, 4, 2)
            marked = marked_by_chance(random, job)
            vectors = {}
            for schedule in schedules(len(job), 8):
                for values, arguments in starts(job):
                    two = Two(job, marked, values, arguments).follow(schedule)
                    vectors.setdefault(two.state(), set()).add(two.vector())
            pair = Pair(job, Marks(job, marked))
            self.assertEqual(len(vectors), {0: 1, 1: 5, 2: 14}[len(job)])
            for state, found in vectors.items():
                self.assertEqual(pair.space(*state), Space(len(pair.labels), sorted(found)))

    def test_by_chance(self):
        random = Random(292)
        seen = {}
        for _ in range(120):
            job = job_for_two(random)
            marked = marked_by_chance(random, job)
            pair = Pair(job=job, marks=Marks(job, marked))
            wrong = False
            for _ in range(12):
                schedule = schedule_by_chance(random, len(job))
                values, arguments = numbers_by_chance(random, job, 50)
                two = Two(job, marked, values, arguments)
                right = plain_run(job, values, arguments, ())
                for runner, word in schedule:
                    two.move(runner, word)
                    wrong = wrong or two.may_end() and two.durable() != right
                self.assertIn(two.vector(), pair.space(*two.state()))
                self.assertEqual(pair_outcome(job, Marks(job, marked), (values, arguments, schedule)), two.durable())
            self.assertFalse(wrong and pair.is_safe)
            seen[wrong, pair.is_safe] = True
            if pair.is_safe:
                self.assertIsNone(pair.wrong_run)
            else:
                self.assert_wrong(job, marked, pair.wrong_run)
        self.assertTrue(seen[True, False] and seen[False, True])

    def test_one_runner_alone_ends_as_a_run_of_the_job(self):
        random = Random(293)
        for _ in range(60):
            job = job_for_two(random)
            marks = Marks(job, marked_by_chance(random, job))
            pair = Pair(job, marks)
            if pair.is_safe:
                self.assertTrue(Study(job, marks).is_safe)
            values, arguments = numbers_by_chance(random, job)
            plan = plan_by_chance(random, job, 4)
            for runner in (0, 1):
                schedule = [STEP[runner]] * len(job)
                for position in plan[::-1]:
                    schedule = [STEP[runner]] * position + [FAIL[runner]] + schedule
                ended = pair_outcome(job, marks, (values, arguments, tuple(schedule)))
                self.assertEqual(ended, outcome(job, marks, values, arguments, plan, ())[0])

    def test_safe_for_one_runner_and_not_for_two(self):
        for places in ((0,), (1,), (0, 1)):
            self.assertTrue(Study(COPYING, Marks(COPYING, places)).is_safe and Pair(COPYING, Marks(COPYING, places)).is_safe)
        self.assertTrue(Study(SIX, Marks(SIX, (1,))).is_safe and not Pair(SIX, Marks(SIX, (1,))).is_safe)
        job = parse_job("store s: x y\njob\n  set x = y\n  set y = x + 1\n  set x = 0\nend")
        single = [places for places in ((), (0,), (1,), (0, 1), (1, 2), (0, 1, 2))
                  if Study(job, Marks(job, places)).is_safe and not Pair(job, Marks(job, places)).is_safe]
        self.assertEqual(single, [(1,)])
        self.assert_wrong(job, (1,), Pair(job, Marks(job, (1,))).wrong_run)

    def test_all_places_marked(self):
        random = Random(294)
        for _ in range(40):
            job = job_for_two(random, 9)
            self.assertTrue(Pair(job, Marks(job, tuple(range(job.places)))).is_safe)

    def test_a_runner_that_stops_for_ever(self):
        # What goes wrong only if the second runner never comes to its end.
        job = parse_job("store s: x y\njob\n  set x = 1\n  set y = x\n  set x = 2\nend")
        pair = Pair(job, Marks(job))
        self.assertFalse(pair.is_safe)
        self.assert_wrong(job, (), pair.wrong_run)
        run = ((0, 0), (), (STEP[0], STEP[0], STEP[0], STEP[1], FAIL[1]))
        self.assertEqual(pair_outcome(job, Marks(job), run), (1, 1))
        self.assert_wrong(job, (), run)

    def test_a_job_without_steps(self):
        pair = Pair(EMPTY, Marks(EMPTY))
        self.assertEqual((pair.is_safe, pair.wrong_run), (True, None))
        self.assertEqual(pair.space(0, 0, 0).basis, ((1, 1, 0, 0, 0, 0), (0, 0, 1, 0, 0, 0), (0, 0, 0, 0, 0, 1)))
        self.assertEqual(fewest_for_two(EMPTY), (0, Marks(EMPTY)))
        self.assertEqual(pair_outcome(EMPTY, Marks(EMPTY), ((5,), (6,), ())), (5,))
        self.assertEqual(pair_outcome(EMPTY, Marks(EMPTY), ((5,), (6,), (FAIL[0], FAIL[1], FAIL[0]))), (5,))
        run = ((5,), (6,), (STEP[0],))
        self.assert_value(InvalidRun, run, pair_outcome, EMPTY, Marks(EMPTY), run)

    def test_six_executions(self):
        # With kept locals alone, a runner that lags behind writes the value of an earlier round.
        for places, is_safe in (((), False), ((0,), True), ((1,), False), ((2,), True), ((0, 1), True), ((1, 2), True)):
            pair = Pair(SIX, Marks(SIX, places))
            self.assertEqual(pair.is_safe, is_safe, places)
            if not is_safe:
                self.assert_wrong(SIX, places, pair.wrong_run)
            self.assertEqual(pair.space(6, 0, 6).width, len(pair.labels))
        self.assertEqual(fewest_for_two(SIX), (1, Marks(SIX, (0,))))

    def test_the_greatest_job(self):
        inner = "    atomic\n      set r = {0} * i + t + w\n      set w = r + {1} * z\n      set t = u + w\n      set u = r\n    end\n"
        job = parse_job("store p: x y\nstore q: z w v\ngiven n m o\nlocal r t u\njob\n  set x = m + n + {0} * y\n  set y = {1} * o + x\n"
                        "  repeat i in 2 3\n{2}  end\n  set v = r + t + v\n  set z = {1} * v + y\nend".format(
                            10 ** 99 + 7, 3 ** 200, inner.format(10 ** 98 + 1, 7 ** 110)))
        self.assertEqual((len(job), job.places), (6, 6))
        pair = Pair(job, Marks(job, (0, 3)))
        self.assert_wrong(job, (0, 3), pair.wrong_run)
        schedule = schedule_by_chance(Random(1), 6)
        two = Two(job, (0, 3), (1, 2, 3, 4, 5), (6, 7, 8)).follow(schedule)
        self.assertIn(two.vector(), pair.space(*two.state()))
        total, marks = fewest_for_two(job)
        self.assertEqual((total, Pair(job, marks).is_safe), (len(marks), True))

    def test_spaces_at_all_states(self):
        pair = Pair(COPYING, Marks(COPYING, (0,)))
        width = len(pair.labels)
        self.assertEqual(width, 6)
        self.assertEqual(pair.space(0, 0, 0), Space(width, [(1, 1, 0, 0, 0, 0), (0, 0, 0, 0, 0, 1)]))
        self.assertEqual(pair.space(far=2, one=2, other=0).basis, ((1, 0, 0, 0, 0, 1), (0, 1, 1, 0, 1, -1)))
        for state in ((1, 0, 1), (2, 2, 2), (2, 1, 0)):
            self.assertEqual(pair.space(*state), pair.space(*state))


class TestPairErrors(Checked):
    def test_no_jobs_for_two(self):
        for value in (None, 0, "job", ADDING.steps, TAKING, SENDING, SEVEN, Job, Marks(ADDING)):
            for action in (Pair, pair_outcome):
                self.assert_no_job(action, value, None, *[None] * (action is pair_outcome))
            self.assert_no_job(fewest_for_two, value, 0)
        self.assertTrue(Pair(SIX, Marks(SIX, (0,))).is_safe)
        within = parse_job("store s: x\njob\n  repeat i in 1\n    atomic\n      take x\n    end\n  end\nend")
        self.assert_no_job(Pair, within, Marks(within))

    def test_marks(self):
        for value in (None, (), (0,), ADDING, Marks(EMPTY), Marks(SENDING), Marks):
            self.assert_value(InvalidMarks, value, Pair, ADDING, value)
            self.assert_value(InvalidMarks, value, pair_outcome, ADDING, value, None)
        again = parse_job(format_job(ADDING))
        self.assertTrue(Pair(again, Marks(ADDING, (0,))).is_safe)

    def test_states(self):
        for marked in ((), (0,)):
            pair = Pair(MOVING, Marks(MOVING, marked))
            for value in (True, False, None, 1.0, "1", (1,), -1, 3, 10 ** 30, pair):
                self.assert_value(InvalidFar, value, pair.space, value, None, None)
                self.assert_value(InvalidPosition, value, pair.space, 2, value, -5)
                self.assert_value(InvalidPosition, value, pair.space, 2, 2, value)
            self.assert_value(InvalidPosition, 2, pair.space, 1, 2, 3)
            self.assert_value(InvalidPosition, 3, pair.space, 2, 2, 3)
            self.assert_value(InvalidPosition, 1, pair.space, 0, 0, 1)

    def test_runs(self):
        marks = Marks(COPYING)
        right = ((0,), (), (STEP[0], FAIL[1], STEP[0], FAIL[0]))
        self.assertEqual(pair_outcome(COPYING, marks, right), (1,))
        wrongs = [right[:at] + (value,) + right[at + 1:] for at in range(3)
                  for value in NO_TUPLES + ((True,), (None,), (1.0,), ((1,),), ((0, 1),))]
        wrongs += [right[:2], right + ((),), list(right), None, "run", 0, ((0, 0), (), ()), ((), (), ()), ((0,), (1,), ())]
        for pair in ((2, "step"), (-1, "step"), (True, "step"), (False, "fail"), ("0", "step"), (0, "stop"), (0, 1), (0,),
                     (0, "step", 1), [0, "step"], "0s", None, (None, "step"), (0, None), ([], "step"), (0, [])):
            wrongs.append(((0,), (), (pair,)))
            wrongs.append(((0,), (), (STEP[0], pair)))
        wrongs += [((0,), (), (STEP[1],) * 3), ((0,), (), (STEP[0], STEP[0], FAIL[1], STEP[0])),
                   ((0,), (), (STEP[0], STEP[0], FAIL[0], STEP[0], STEP[0], STEP[0])), ((0,), (), [STEP[0]])]
        for value in wrongs:
            self.assert_value(InvalidRun, value, pair_outcome, COPYING, marks, value)

    def test_costs(self):
        for value in (0, (), (1,), (1, 1, 1), [1, 1], (0, 1), (1, 101), (True, 1), (1, None), "11"):
            self.assert_value(InvalidCosts, value, fewest_for_two, MOVING, value)

    def test_pairs_are_constant(self):
        pair = Pair(ADDING, Marks(ADDING))
        for name in ("labels", "is_safe", "wrong_run"):
            with self.assertRaises(AttributeError):
                setattr(pair, name, ())
        self.assertRaises(TypeError, iter, pair)


class TestSchedules(Checked):
    def test_failures_at_the_end_and_at_position_0(self):
        marks = Marks(ADDING)
        for schedule, told in (((), 0), ((FAIL[0], FAIL[1]), 0), ((STEP[0],), 1), ((STEP[0], STEP[1]), 2),
                               ((STEP[0], FAIL[0], STEP[0], FAIL[1], STEP[1], FAIL[0]), 3)):
            self.assertEqual(pair_outcome(ADDING, marks, ((0,), (), schedule)), (told,))
            self.assertEqual(pair_outcome(ADDING, Marks(ADDING, (0,)), ((0,), (), schedule)), (min(told, 1),))

    def test_far_and_kept_values_are_common(self):
        job = parse_job("store s: x\nlocal t\njob\n  set t = x + 5\n  set x = 2 * t\nend")
        schedule = (STEP[0], STEP[1], STEP[0], STEP[1])
        self.assertEqual(pair_outcome(job, Marks(job, (0,)), ((1,), (), schedule)), (12,))
        # The second runner has no local of the first one, and passes over what that one performed.
        self.assertEqual(pair_outcome(job, Marks(job, (0, 1)), ((1,), (), (STEP[0], STEP[0], FAIL[0]) + schedule)), (12,))
        self.assertEqual(pair_outcome(job, Marks(job), ((1,), (), (STEP[0], STEP[0], STEP[1], STEP[1]))), (34,))
        # Passed over without a mark of its own, a step leaves the locals as they are.
        within = parse_job("store s: x\nlocal t\njob\n  repeat i in 1\n    set t = x + 5\n  end\n  set x = t\nend")
        for places, told in (((0,), 0), ((1,), 6), ((0, 1), 6), ((), 11)):
            self.assertEqual(pair_outcome(within, Marks(within, places), ((1,), (), (STEP[0], STEP[0], STEP[1], STEP[1]))), (told,))


class TestFewest(Checked):
    def test_by_chance(self):
        random = Random(30)
        seen = {}
        for _ in range(40):
            job = job_for_two(random, 5)
            costs = random.choice((None, tuple(random.choice((1, 1, 2, 100)) for _ in range(job.places))))
            found = fewest_for_two(job=job, costs=costs)
            for total, places in priced_choices(job, costs):
                pair = Pair(job, Marks(job, places))
                if pair.is_safe:
                    break
                self.assert_wrong(job, places, pair.wrong_run)
            self.assertEqual(found, (total, Marks(job, places)))
            self.assertEqual(total, cost(found[1], costs))
            seen[total] = True
        self.assertGreater(len(seen), 4)

    def test_costs_choose(self):
        self.assertEqual([fewest_for_two(COPYING, costs)[1].places for costs in (None, (1, 1), (2, 1), (1, 2))],
                         [(0,), (0,), (1,), (0,)])

    def test_it_costs_at_least_as_much_as_for_one_runner(self):
        job = parse_job("store s: x y\njob\n  set x = y\n  set y = x + 1\n  set x = 0\nend")
        self.assertEqual(fewest_for_two(job), (2, Marks(job, (0, 1))))


if __name__ == "__main__":
    unittest.main()
