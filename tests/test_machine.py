"""Points 2, 12, 14 and 15: machines."""

import unittest
from random import Random

from reference import (
    NO_INTEGERS, NO_TUPLES, SlowRun, Told, job_by_chance, marked_by_chance, numbers_by_chance, plan_by_chance,
    taken_by_chance)
from retrysafe.errors import (
    AtEnd, InvalidArguments, InvalidCount, InvalidMarks, InvalidPlan, InvalidTaken, InvalidValues, NoValue)
from retrysafe.jobs import Job
from retrysafe.machine import Machine
from retrysafe.marks import Marks
from retrysafe.runs import attempts, outcome
from retrysafe.texts import format_job, parse_job

TWO = parse_job("store s: x\nlocal t\njob\n  set t = x\n  set x = t + 1\nend")
TAKING = parse_job("store s: x\ngiven n\nlocal t\njob\n  take t\n  set x = t + x\nend")
THREE = parse_job("store s: x\njob\n  set x = x + 1\n  set x = x + 1\n  set x = x + 1\nend")
SENDING = parse_job("store s: x\njob\n  send box x\nend")
EMPTY = Job((("s", ("x",)),), (), (), ())


def two(places=(), value=4):
    return Machine(TWO, Marks(TWO, places), (value,), ())


def three(places=()):
    return Machine(THREE, Marks(THREE, places), (0,), ())


def taking(*taken):
    return Machine(TAKING, Marks(TAKING), (0,), (0,), taken)


def state(machine):
    return (machine.durable, machine.temps, machine.here, machine.far, machine.failures, machine.plan,
            machine.taken_count, machine.is_ended)


class TestMoves(Told):
    def test_the_example_of_the_document(self):
        tried = two((1,)).trial((1, 2))
        self.assertEqual((tried.durable, tried.plan, tried.failures), ((5,), (1, 2), 2))
        self.assertEqual(outcome(TWO, Marks(TWO), (4,), (), (2,), ())[0], (6,))

    def test_step_by_step(self):
        machine = two((1,))
        self.assertEqual(state(machine), ((4,), (0,), 0, 0, 0, (), 0, False))
        self.assertEqual(machine.step(), ("do", 0, (4,)))
        self.assertEqual(state(machine), ((4,), (4,), 1, 1, 0, (), 0, False))
        self.assertIsNone(machine.fail())
        self.assertEqual(state(machine), ((4,), (0,), 0, 1, 1, (1,), 0, False))
        self.assertEqual([machine.step(), machine.step()], [("do", 0, (4,)), ("do", 1, (5,))])
        self.assertEqual(state(machine), ((5,), (4,), 2, 2, 1, (1,), 0, True))
        machine.fail()
        self.assertEqual([machine.step(), machine.step()], [("do", 0, (5,)), ("pass", 1)])
        self.assertEqual(state(machine), ((5,), (5,), 2, 2, 2, (1, 2), 0, True))

    def test_step_at_the_end(self):
        machine = two()
        machine.finish()
        ahead = state(machine)
        self.assert_raised(AtEnd, {"position": 2}, machine.step)
        self.assertEqual(state(machine), ahead)
        self.assert_raised(AtEnd, {"position": 0}, Machine(EMPTY, Marks(EMPTY), (1,), ()).step)

    def test_finish(self):
        machine = two()
        self.assertIsNone(machine.finish())
        self.assertEqual(state(machine), ((5,), (4,), 2, 2, 0, (), 0, True))
        machine.finish()
        self.assertEqual(state(machine), ((5,), (4,), 2, 2, 0, (), 0, True))

    def test_a_job_without_steps(self):
        machine = Machine(EMPTY, Marks(EMPTY), (7,), ())
        self.assertTrue(machine.is_ended)
        machine.fail()
        machine.finish()
        machine >>= 3
        self.assertEqual(state(machine), ((7,), (), 0, 0, 1, (0,), 0, True))
        self.assertEqual(machine.trial((0, 0)).plan, (0, 0, 0))

    def test_take(self):
        machine = taking(5, 7)
        self.assertEqual([machine.step(), machine.taken_count, machine.temps], [("do", 0, (0,)), 1, (5,)])
        machine.fail()
        machine.finish()
        self.assertEqual((machine.durable, machine.taken_count, machine.plan), ((7,), 2, (1,)))
        machine.fail()
        ahead = state(machine)
        for action in (machine.step, machine.finish, lambda: machine.__irshift__(2), lambda: machine.trial((1,))):
            self.assert_raised(NoValue, {"position": 0}, action)
            self.assertEqual(state(machine), ahead)

    def test_an_error_in_the_middle_changes_nothing(self):
        job = parse_job("store s: x\njob\n  set x = 1\n  atomic\n    set x = 2\n    take x\n  end\nend")
        machine = Machine(job, Marks(job), (0,), (), (9,))
        machine.finish()
        machine.fail()
        ahead, twin = state(machine), machine.copy()
        self.assert_raised(NoValue, {"position": 1}, machine.finish)
        with self.assertRaises(NoValue):
            machine >>= 2
        self.assertEqual((state(machine), machine), (ahead, twin))
        machine.step()
        ahead = state(machine)
        self.assert_raised(NoValue, {"position": 1}, machine.step)
        self.assertEqual(state(machine), ahead)

    def test_shift(self):
        machine = same = three()
        machine >>= 0
        self.assertEqual(machine.here, 0)
        machine >>= 2
        self.assertEqual((machine.here, machine.durable), (2, (2,)))
        machine >>= 10 ** 30
        self.assertEqual((machine.here, machine.durable), (3, (3,)))
        machine >>= 1
        self.assertIs(machine, same)
        self.assertEqual(state(machine), ((3,), (), 3, 3, 0, (), 0, True))

    def test_wrong_counts(self):
        machine = two()
        for value in NO_INTEGERS + (-1, -10 ** 30, machine):
            self.assert_value(InvalidCount, value, machine.__irshift__, value)
        with self.assertRaises(InvalidCount):
            machine >>= True
        self.assertEqual(machine, two())

    def test_by_chance(self):
        random = Random(15)
        for _ in range(200):
            job = job_by_chance(random, 9, 16)
            marked = marked_by_chance(random, job)
            marks = Marks(job, marked)
            values, arguments = numbers_by_chance(random, job)
            plan = plan_by_chance(random, job, 5)
            taken = taken_by_chance(random, 12)
            told = (job, marks, values, arguments, plan, taken)
            machine = Machine(job, marks, values, arguments, taken)
            run = SlowRun(job, marked, values, arguments, taken).follow(plan)
            tried = machine.trial(plan)
            self.assertEqual(state(tried), (tuple(run.durable.values()), tuple(run.temps.values()), len(job), len(job),
                                            len(plan), plan, run.used, True))
            made = []
            with machine.failing(plan):
                for _ in run.moves:
                    made.append(machine.step())
                self.assertRaises(AtEnd, machine.step)
            self.assertEqual(made, list(attempts(*told)))
            self.assertEqual(machine, tried)


class TestFailing(Told):
    def test_failures_by_itself(self):
        machine = three()
        with machine.failing((2, 0)) as same:
            self.assertIs(same, machine)
            self.assertEqual([machine.step(), machine.step(), machine.step(), machine.step()],
                             [("do", 0, (1,)), ("do", 1, (2,)), ("fail", 2), ("fail", 0)])
            self.assertEqual(machine.plan, (2, 0))
            machine.finish()
        self.assertEqual((machine.durable, machine.here), ((5,), 3))

    def test_failures_at_the_end(self):
        machine = three()
        with machine.failing((3, 3)):
            machine.finish()
            self.assertEqual((machine.plan, machine.here), ((3, 3), 3))
            self.assert_raised(AtEnd, {"position": 3}, machine.step)
        with machine.failing((3,)):
            self.assertEqual(machine.step(), ("fail", 3))

    def test_at_the_end_with_a_failure_that_is_left(self):
        machine = three()
        machine.finish()
        with machine.failing((3, 1)):
            machine >>= 1
            self.assertEqual((machine.here, machine.plan), (0, (3,)))
            machine >>= 2
            self.assertEqual((machine.here, machine.plan), (0, (3, 1)))
            machine >>= 100
        self.assertEqual((machine.here, machine.plan, machine.durable), (3, (3, 1), (7,)))

    def test_numbers_that_are_left_are_forgotten(self):
        machine = three()
        with machine.failing((1, 2, 1)):
            machine >>= 3
        machine.finish()
        self.assertEqual((machine.plan, machine.here), ((1,), 3))
        with machine.failing(()):
            machine.finish()
        self.assertEqual(machine.plan, (1,))

    def test_only_the_first_number_counts(self):
        machine = three()
        machine >>= 2
        with machine.failing((1, 3)):
            machine.finish()
            self.assertEqual((machine.plan, machine.here), ((), 3))
            machine.fail()
            machine.finish()
        self.assertEqual(machine.plan, (3, 1, 3))

    def test_a_failure_by_hand_takes_no_number_away(self):
        machine = three()
        with machine.failing((1,)):
            machine.step()
            machine.fail()
            machine.finish()
        self.assertEqual(machine.plan, (1, 1))

    def test_failing_within_failing(self):
        machine = three()
        with machine.failing((1, 2, 3)):
            machine >>= 2
            self.assertEqual(machine.plan, (1,))
            with machine.failing((0, 1)):
                self.assertEqual(machine.step(), ("fail", 0))
                machine.finish()
                self.assertEqual(machine.plan, (1, 0, 1))
                self.assertRaises(AtEnd, machine.step)
            machine.fail()
            machine.finish()
            self.assertEqual(machine.plan, (1, 0, 1, 3, 2, 3))
        self.assertRaises(AtEnd, machine.step)

    def test_inner_numbers_that_are_left_are_forgotten(self):
        machine = three()
        with machine.failing((2,)):
            with machine.failing((1, 1)):
                machine >>= 2
            machine.finish()
        self.assertEqual(machine.plan, (1, 2))
        with machine.failing((3,)):
            with machine.failing(()):
                machine.finish()
                self.assertEqual(machine.plan, (1, 2))
            machine >>= 1
        self.assertEqual(machine.plan, (1, 2, 3))

    def test_an_error_within_the_block(self):
        machine = taking(1, 2, 3)
        with self.assertRaises(NoValue) as caught:
            with machine.failing((1, 2, 2, 1)):
                machine >>= 4
                self.assertEqual((machine.plan, machine.taken_count), ((1,), 2))
                try:
                    machine.finish()
                except NoValue:
                    # Neither the machine nor what is left of the numbers was changed.
                    self.assertEqual((machine.plan, machine.here, machine.taken_count), ((1,), 2, 2))
                    self.assertEqual(machine.step(), ("fail", 2))
                    raise
        self.assertEqual(caught.exception.position, 0)
        machine.finish()
        self.assertEqual((machine.plan, machine.is_ended), ((1, 2), True))

    def test_another_error_behind_an_outer_block(self):
        machine = three()
        with machine.failing((2, 3)):
            with self.assertRaises(ZeroDivisionError):
                with machine.failing((1,)):
                    raise ZeroDivisionError
            machine.finish()
        self.assertEqual(machine.plan, (2, 3))

    def test_a_copy_within_the_block(self):
        machine = three()
        with machine.failing((1,)):
            other = machine.copy()
            self.assertEqual(other, machine)
            other.finish()
            machine.finish()
        self.assertEqual((other.plan, machine.plan), ((), (1,)))

    def test_trial_within_the_block(self):
        machine = three()
        with machine.failing((1,)):
            self.assertEqual(machine.trial((2,)).plan, (2,))
            self.assertEqual(machine.step(), ("do", 0, (1,)))
            self.assertEqual(machine.step(), ("fail", 1))

    def test_wrong_positions(self):
        machine = three()
        for value in NO_TUPLES + ((4,), (-1,), (True,), (0, None), ("1",), (1.0,), ((1,),), machine):
            self.assert_value(InvalidPlan, value, machine.failing, value)
            self.assert_value(InvalidPlan, value, machine.trial, value)
        self.assertEqual(machine, three())


class TestTrial(Told):
    def test_at_the_beginning_and_at_the_end(self):
        machine = three((1,))
        self.assertEqual(machine.trial(positions=(0, 3)).plan, (0, 3))
        machine.finish()
        tried = machine.trial((3, 0))
        self.assertEqual((tried.plan, tried.durable), ((3, 0), (5,)))
        self.assertEqual(machine.trial(()), machine)
        self.assertEqual((machine.plan, machine.durable), ((), (3,)))

    def test_a_trial_from_the_middle(self):
        machine = three()
        machine >>= 2
        self.assertEqual(machine.trial((2, 1)).plan, (2, 1))
        self.assertEqual(machine.trial((1, 2)).plan, ())
        self.assertEqual(machine.here, 2)

    def test_values_that_do_not_suffice(self):
        machine = taking(1)
        self.assert_raised(NoValue, {"position": 0}, machine.trial, (2,))
        self.assertEqual(machine, taking(1))


class TestEquality(Told):
    def test_copies(self):
        machine = two((1,))
        machine >>= 1
        other = machine.copy()
        self.assertTrue(machine == other)
        self.assertFalse(machine != other)
        other.step()
        self.assertFalse(machine == other)
        self.assertEqual((machine.here, other.here), (1, 2))
        machine.step()
        self.assertTrue(machine == other)
        machine.fail()
        self.assertEqual((machine.plan, other.plan), ((2,), ()))

    def test_what_is_compared(self):
        self.assertEqual(two((1,)), Machine(parse_job(format_job(TWO)), Marks(TWO, [1]), (4,), (), ()))
        self.assertNotEqual(two((1,)), two((0,)))
        self.assertNotEqual(two(value=4), two(value=5))
        self.assertNotEqual(taking(1), taking(1, 2))
        self.assertNotEqual(taking(1), Machine(TAKING, Marks(TAKING), (0,), (1,), (1,)))
        self.assertNotEqual(two(), three())
        for value in (None, 0, TWO, Marks(TWO), state(two())):
            self.assertFalse(two() == value)
            self.assertTrue(two() != value)

    def test_the_row_of_failures_is_compared(self):
        one, other = three((0, 1, 2)).trial((3, 1)), three((0, 1, 2)).trial((3, 2))
        self.assertEqual((one.durable, one.here, one.far), (other.durable, other.here, other.far))
        self.assertNotEqual(one, other)

    def test_values_at_the_beginning_are_compared(self):
        job = parse_job("store s: x\njob\n  set x = 5\nend")
        ended = [Machine(job, Marks(job), (value,), ()).trial(()) for value in (1, 1, 2)]
        self.assertEqual(ended[0].durable, ended[2].durable)
        self.assertEqual(ended[0], ended[1])
        self.assertNotEqual(ended[0], ended[2])

    def test_machines_are_not_iterated(self):
        for action in (iter, len, lambda machine: machine[0]):
            self.assertRaises(TypeError, action, two())
        for name in ("durable", "temps", "here", "far", "failures", "plan", "taken_count", "is_ended"):
            with self.assertRaises(AttributeError):
                setattr(two(), name, 1)


class TestErrors(Told):
    def test_errors_in_order(self):
        marks = Marks(TAKING)
        for value in (None, 0, "job", SENDING, Job):
            self.assert_no_job(Machine, value, None, None, None, None)
        for value in (None, (), TAKING, Marks(TWO)):
            self.assert_value(InvalidMarks, value, Machine, TAKING, value, None, None, None)
        for value in NO_TUPLES + ((), (1, 2), (True,)):
            self.assert_value(InvalidValues, value, Machine, TAKING, marks, value, None, None)
            self.assert_value(InvalidArguments, value, Machine, TAKING, marks, (1,), value, None)
        for value in NO_TUPLES + ((True,), (None,), (1.0,)):
            self.assert_value(InvalidTaken, value, Machine, TAKING, marks, (1,), (1,), value)

    def test_arguments_by_name(self):
        machine = Machine(job=TAKING, marks=Marks(TAKING), values=(1,), arguments=(2,), taken=(3,))
        machine.finish()
        self.assertEqual(machine.durable, (4,))
        with machine.failing(positions=(2,)):
            self.assertRaises(NoValue, machine.finish)


if __name__ == "__main__":
    unittest.main()
