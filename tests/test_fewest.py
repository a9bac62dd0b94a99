"""Points 2, 3 (f), 26, 27 and 28: the cheapest marks."""

import unittest
from itertools import combinations
from random import Random

from reference import (
    NO_INTEGERS, NO_TUPLES, Lacking, SlowRun, Told, all_choices, is_right, job_by_chance, numbers_by_chance,
    plan_by_chance, taken_by_chance, takers)
from retrysafe.errors import InvalidCosts, InvalidCount, InvalidMarks, InvalidRun
from retrysafe.fewest import fewest, prices, purposes, shows_fewest
from retrysafe.jobs import Job
from retrysafe.marks import Marks, cost
from retrysafe.studies import Study, least_failures
from retrysafe.texts import format_job, parse_job

BANK = parse_job("store p: x\nstore q: y\ngiven n\njob\n  set x = -n + x\n  set y = n + y\n  set y = n + y\nend")
TAKING = parse_job("store s: x\nlocal t\njob\n  take t\n  set x = t + x\nend")
SEVEN = parse_job("store s: x\njob\n  set x = x + 1\n  set x = 7\nend")
EMPTY = Job((("s", ("x",)),), (), (), ())
SENDING = parse_job("store s: x\njob\n  send box x\nend")
# Without marks x is wrong behind one failure. With place 0 marked each attempt moves the values on by one, so that e is
# wrong behind two; then the moving has to be marked, too.
GROWING = parse_job("store s: a b c e x\njob\n  atomic\n    set a = 0\n    set b = 0\n    set c = 0\n    set x = x + 1\n"
                    "  end\n  atomic\n    set c = b\n    set b = a\n    set a = 1\n  end\n  set e = c\n  atomic\n"
                    "    set a = 0\n    set b = 0\n    set c = 0\n  end\nend")


def in_order(job, costs=None):
    """All choices of places, by their cost, then as tuples."""
    every = [places for many in range(job.places + 1) for places in combinations(range(job.places), many)]
    return sorted(every, key=lambda places: (cost(Marks(job, places), costs), places))


def costs_by_chance(random, job):
    return random.choice((None, tuple(random.choice((1, 1, 2, 3, 100)) for _ in range(job.places))))


class Checked(Told):
    def assert_cheapest(self, job, costs, failures, found):
        """The marks are safe, and none ahead of them is right for all runs."""
        price, marks, runs = found
        self.assertEqual((marks.job, price), (job, cost(marks, costs)))
        self.assertTrue(Study(job, marks, failures).is_safe)
        self.assertIs(type(runs), tuple)
        self.assertLessEqual(len(runs), 4000)
        for _, _, plan, taken in runs:
            self.assertLessEqual(len(plan), 2000 if failures is None else failures)
            self.assertGreaterEqual(len(taken), (len(plan) + 1) * len(takers(job)))
        for places in in_order(job, costs):
            if places == marks.places:
                break
            self.assertFalse(any(all(is_right(job, places, run, choice) for run in runs) for choice in all_choices(job)))
        self.assertIs(shows_fewest(job, marks, runs, costs), True)


class TestFewest(Checked):
    def test_the_example_of_the_document(self):
        price, marks, runs = fewest(BANK)
        self.assertEqual((price, marks.places, shows_fewest(BANK, marks, runs)), (3, (0, 1, 2), True))
        self.assertEqual((prices(BANK), fewest(BANK, (9, 1, 1))[0]), ([0, 3], 11))

    def test_by_chance(self):
        random = Random(26)
        prices_seen = {}
        for _ in range(60):
            job = job_by_chance(random, 5, 6)
            costs = costs_by_chance(random, job)
            for failures in (None, 0, 1, 2):
                found = fewest(job=job, costs=costs, failures=failures)
                self.assert_cheapest(job, costs, failures, found)
                prices_seen[found[0]] = True
        self.assertGreater(len(prices_seen), 4)

    def test_the_first_in_order(self):
        random = Random(27)
        for _ in range(30):
            job = job_by_chance(random, 4, 6)
            costs = costs_by_chance(random, job)
            safe = [places for places in in_order(job, costs) if Study(job, Marks(job, places)).is_safe]
            self.assertEqual(fewest(job, costs)[1].places, safe[0])

    def test_a_job_that_is_safe_without_marks(self):
        self.assertEqual(fewest(SEVEN), (0, Marks(SEVEN), ()))
        self.assertEqual(fewest(EMPTY, ()), (0, Marks(EMPTY), ()))
        self.assertEqual(fewest(BANK, None, 0), (0, Marks(BANK), ()))

    def test_costs_choose(self):
        job = parse_job("store s: x\nlocal t\njob\n  set t = x\n  set x = t + 1\nend")
        self.assertEqual([fewest(job, costs)[1].places for costs in (None, (1, 1), (1, 2), (2, 1), (100, 100))],
                         [(0,), (0,), (0,), (1,), (0,)])

    def test_equal_costs_come_in_the_order_of_tuples(self):
        job = parse_job("store s: x y\njob\n  set x = x + 1\n  set y = y + 1\nend")
        self.assertEqual(fewest(job, (1, 1))[1].places, (0, 1))
        both = parse_job("store s: x\nlocal t\njob\n  set t = x\n  set t = t + 1\n  set x = t\nend")
        # (0, 1), (0, 2) and (0, 1, 2) come ahead of (1,) if they cost less.
        self.assertEqual([fewest(both, costs)[:2] for costs in ((1, 9, 9), (9, 1, 9), (9, 9, 1), (2, 3, 5))],
                         [(1, Marks(both, (0,))), (1, Marks(both, (1,))), (1, Marks(both, (2,))), (2, Marks(both, (0,)))])

    def test_against_few_failures(self):
        for failures, places in ((0, ()), (1, (0,)), (2, (0, 1)), (3, (0, 1)), (60, (0, 1)), (None, (0, 1))):
            found = fewest(GROWING, None, failures)
            self.assertEqual(found[1].places, places)
            self.assert_cheapest(GROWING, None, failures, found)
        self.assertEqual([least_failures(GROWING, Marks(GROWING, places)) for places in ((), (0,), (0, 1), (0, 2))],
                         [1, 2, None, 2])

    def test_runs_have_taken_values_for_all_marks(self):
        text = format_job(GROWING).replace("job", "local t u\njob").removesuffix("end") + "  take t\n  take u\nend"
        job = parse_job(text)
        for costs in (None, (1, 9, 9, 9, 1, 9)):
            for failures in (None, 1, 2):
                self.assert_cheapest(job, costs, failures, fewest(job, costs, failures))
        found = fewest(job)
        self.assertEqual((found[1].places, prices(job)), ((0, 1), [0, 1, 2]))
        self.assertEqual([(len(run[2]), len(run[3])) for run in found[2]], [(1, 4), (2, 6)])

    def test_the_greatest_job(self):
        inner = (("set", "b", ("sum", 0, ((1, "b"), (1, "i")))), ("set", "c", ("sum", 0, ((1, "b"), (1, "c")))),
                 ("atomic", (("set", "d", ("sum", 0, ((1, "d"), (1, "t")))), ("set", "a", ("sum", 5, ((1, "u"),))))))
        steps = (("take", "t"), ("take", "u"), ("repeat", "i", (1, 2, 3, 4), inner),
                 ("set", "a", ("sum", 0, ((1, "a"), (1, "u")))), ("set", "e", ("sum", 0, ((1, "e"), (1, "t")))))
        job = Job((("s", ("a", "b", "c", "d", "e")),), (), ("t", "u"), steps)
        self.assertEqual((len(job), job.places), (16, 8))
        for costs in (None, (9, 8, 7, 6, 5, 4, 3, 2)):
            found = fewest(job, costs)
            self.assertGreater(len(found[1]), 3)
            self.assertTrue(shows_fewest(job, found[1], found[2], costs))
            self.assertTrue(Study(job, found[1]).is_safe)
        self.assertEqual(prices(job)[-1], fewest(job)[0])

    def test_arguments_are_checked_in_order(self):
        for value in (None, 0, "job", SENDING, Job, Marks(BANK)):
            self.assert_no_job(fewest, value, 0, "x")
            self.assert_no_job(prices, value, 0)
            self.assert_no_job(purposes, value, None)
            self.assert_no_job(shows_fewest, value, None, None, 0)
        for value in NO_TUPLES[1:] + ((), (1, 2), (1, 2, 3, 4), (0, 1, 1), (1, 101, 1), (True, 1, 1), [1, 2, 3], (1, 1, 1.0)):
            self.assert_value(InvalidCosts, value, fewest, BANK, value, "x")
            self.assert_value(InvalidCosts, value, prices, BANK, value)
            self.assert_value(InvalidCosts, value, shows_fewest, BANK, Marks(BANK), (), value)
        for value in NO_INTEGERS + (-1, 61, 10 ** 30):
            if value is not None:
                self.assert_value(InvalidCount, value, fewest, BANK, None, value)


class TestShowsFewest(Checked):
    def test_runs_that_do_not_suffice(self):
        _, marks, runs = fewest(BANK)
        self.assertTrue(shows_fewest(job=BANK, marks=marks, runs=runs, costs=None))
        self.assertFalse(shows_fewest(BANK, marks, ()))
        self.assertTrue(shows_fewest(BANK, Marks(BANK), ()))
        for places in ((1, 2), (0, 2), (0, 1)):
            told = tuple(run for run in runs if not all(is_right(BANK, places, run, choice) for choice in all_choices(BANK)))
            self.assertGreater(len(told), 0)
            self.assertFalse(shows_fewest(BANK, marks, tuple(run for run in runs if run not in told)))
        self.assertTrue(shows_fewest(BANK, marks, runs + runs[:1]))
        self.assertTrue(shows_fewest(BANK, Marks(BANK, (0,)), runs))

    def test_runs_of_other_marks_and_costs(self):
        _, marks, runs = fewest(SEVEN)
        self.assertTrue(shows_fewest(SEVEN, marks, runs))
        self.assertFalse(shows_fewest(SEVEN, Marks(SEVEN, (0,)), (((0,), (), (1,), ()), ((0,), (), (2,), ()))))
        job = parse_job("store s: x\nlocal t\njob\n  set t = x\n  set x = t + 1\nend")
        found = fewest(job, (2, 1))
        self.assertEqual([shows_fewest(job, found[1], found[2], costs) for costs in ((2, 1), (1, 1), None)],
                         [True, False, False])

    def test_by_chance(self):
        random = Random(28)
        shown = 0
        for _ in range(80):
            job = job_by_chance(random, 4, 5)
            costs = costs_by_chance(random, job)
            marks = Marks(job, random.choice(in_order(job)))
            runs = tuple((*numbers_by_chance(random, job), plan_by_chance(random, job, 2),
                          taken_by_chance(random, random.randint(0, 5))) for _ in range(4))
            told = all(not any(all(self.is_right_or_lacks(job, places, run, choice) for run in runs)
                               for choice in all_choices(job))
                       for places in in_order(job, costs)[:in_order(job, costs).index(marks.places)])
            shown += told
            self.assertIs(shows_fewest(job, marks, runs, costs), told)
        self.assertTrue(5 < shown < 75)

    def is_right_or_lacks(self, job, places, run, choice):
        try:
            return is_right(job, places, run, choice)
        except Lacking:
            return True

    def test_a_run_that_lacks_taken_values_is_left_out(self):
        marks = Marks(TAKING, (1,))
        enough = ((0,), (), (2,), (5, 7))
        self.assertEqual([shows_fewest(TAKING, marks, runs) for runs in
                          ((enough,), (((0,), (), (2,), (5,)),), (((0,), (), (2,), ()), enough), ())],
                         [True, False, True, False])
        # With place 0 marked one taken value is enough, without marks two are needed.
        self.assertEqual(SlowRun(TAKING, (0,), (0,), (), (5,)).follow((2,)).used, 1)
        self.assertRaises(Lacking, SlowRun(TAKING, (), (0,), (), (5,)).follow, (2,))
        price, best, runs = fewest(TAKING)
        self.assertEqual((price, best.places), (1, (1,)))
        self.assertTrue(shows_fewest(TAKING, best, runs))
        self.assertFalse(shows_fewest(TAKING, best, tuple(run[:3] + ((),) for run in runs)))

    def test_wrong_runs(self):
        marks = Marks(BANK)
        right = ((0, 0), (1,), (3,), ())
        for value in (None, 0, True, "runs", [right], [], {}, {right}, Marks(BANK)):
            self.assert_value(InvalidRun, value, shows_fewest, BANK, marks, value, 0)
        for wrong in (None, 0, (), right[:3], right + ((),), list(right), ((0,), (1,), (3,), ()), ((0, 0), (), (3,), ()),
                      ((0, 0), (1,), (4,), ()), ((0, 0), (1,), (True,), ()), ((0, 0), (1,), [3], ()), ((0, 0), (1,), (3,), (None,)),
                      ((0, 0), (1,), (3,), [])):
            self.assert_value(InvalidRun, wrong, shows_fewest, BANK, marks, (wrong,), 0)
            self.assert_value(InvalidRun, wrong, shows_fewest, BANK, marks, (right, wrong, None), 0)
        for value in (None, (), (0,), BANK, Marks(SEVEN)):
            self.assert_value(InvalidMarks, value, shows_fewest, BANK, value, None, 0)


class TestPrices(Checked):
    def test_against_fewest(self):
        random = Random(29)
        for _ in range(60):
            job = job_by_chance(random, 5, 8)
            costs = costs_by_chance(random, job)
            found = prices(job=job, costs=costs)
            self.assertIs(type(found), list)
            total = fewest(job, costs)[0]
            self.assertEqual(found, [fewest(job, costs, failures)[0] for failures in range(len(found))])
            self.assertEqual((found[-1], [price for price in found[:-1] if price == total]), (total, []))

    def test_prices_that_grow(self):
        self.assertEqual([prices(GROWING, costs) for costs in (None, (3, 7, 1, 1), (100, 100, 100, 100), (1, 1, 1, 50))],
                         [[0, 1, 2], [0, 3, 10], [0, 100, 200], [0, 1, 2]])

    def test_prices_that_do_not_grow(self):
        self.assertEqual((prices(SEVEN), prices(EMPTY, ()), prices(BANK, (100, 1, 1))), ([0], [0], [0, 102]))

    def test_every_list_is_new(self):
        prices(SEVEN).append(1)
        self.assertEqual(prices(SEVEN), [0])


class TestPurposes(Checked):
    def test_marks_that_are_needed(self):
        marks = Marks(BANK, (0, 1, 2))
        found = purposes(job=BANK, marks=marks)
        self.assertEqual(len(found), 3)
        for place, runs in zip(marks, found):
            self.assertEqual(runs, Study(BANK, marks - Marks(BANK, (place,))).wrong_runs)
            self.assertFalse(all(is_right(BANK, [other for other in marks if other != place], run, ()) for run in runs))

    def test_marks_that_are_not_needed(self):
        self.assertEqual(purposes(SEVEN, Marks(SEVEN, (0,))), (None,))
        self.assertEqual(purposes(SEVEN, Marks(SEVEN)), ())
        found = purposes(SEVEN, Marks(SEVEN, (0, 1)))
        self.assertIsNone(found[1])
        self.assertEqual(found[0], Study(SEVEN, Marks(SEVEN, (1,))).wrong_runs)
        self.assertGreater(len(found[0]), 0)

    def test_by_chance(self):
        random = Random(30)
        for _ in range(40):
            job = job_by_chance(random, 6, 8)
            marks = Marks(job, tuple(range(job.places)))
            told = [Study(job, marks - Marks(job, (place,))) for place in marks]
            self.assertEqual(purposes(job, marks), tuple(None if study.is_safe else study.wrong_runs for study in told))
            best = fewest(job)[1]
            self.assertTrue(all(runs for runs in purposes(job, best)))

    def test_errors_in_order(self):
        for value in (None, (), (0,), BANK, Marks(SEVEN), Marks(BANK), Marks(BANK, (0, 1))):
            self.assert_value(InvalidMarks, value, purposes, BANK, value)
        self.assertEqual(len(purposes(parse_job(format_job(BANK)), Marks(BANK, (0, 1, 2)))), 3)


if __name__ == "__main__":
    unittest.main()
