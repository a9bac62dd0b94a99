"""Points 2, 3 (g), 24 and 25: safe papers."""

import unittest
from random import Random

from reference import NO_TUPLES, Told, job_by_chance, marked_by_chance
from retrysafe.errors import InvalidMarks, InvalidStudy
from retrysafe.jobs import Job
from retrysafe.marks import Marks
from retrysafe.papers import is_safe_paper, safe_paper
from retrysafe.studies import Study
from retrysafe.texts import format_job, parse_job

FIVE = parse_job("store s: x\njob\n  set x = 5\nend")
ADDING = parse_job("store s: x\njob\n  set x = x + 1\nend")
TAKING = parse_job("store s: x\nlocal t\njob\n  take t\n  set x = t + x\nend")
TWO = parse_job("store s: x y\nlocal t u\njob\n  take t\n  take u\n  set x = t + x\n  set y = u + y\nend")
EMPTY = Job((("s", ("x",)),), (), (), ())
SENDING = parse_job("store s: x\njob\n  send box x\nend")


def paper(job, places=()):
    return safe_paper(Study(job, Marks(job, places)))


def accepts(job, places, candidate):
    return is_safe_paper(job, Marks(job, places), candidate)


def with_row(found, at, row):
    moments, rows = found
    return moments, rows[:at] + (row,) + rows[at + 1:]


def changed(random, found):
    """A paper with one entry changed."""
    moments, rows = found
    at = random.choice([at for at, row in enumerate(rows) if row])
    row = random.randrange(len(rows[at]))
    entry = random.randrange(len(rows[at][row]))
    vector = rows[at][row]
    other = vector[:entry] + (vector[entry] + random.choice((-1, 1)),) + vector[entry + 1:]
    return with_row(found, at, rows[at][:row] + (other,) + rows[at][row + 1:])


class TestSafePaper(Told):
    def test_the_example_of_the_document(self):
        self.assertEqual(paper(FIVE), ((), (((1, -1, 0),), ((1, 0, -5),), ((1, 0, -5),))))

    def test_moments_and_equations(self):
        study = Study(TAKING, Marks(TAKING, (1,)))
        moments, rows = safe_paper(study=study)
        self.assertEqual(moments, (1,))
        self.assertEqual(len(rows), 6)
        self.assertEqual(rows, tuple(study.equations(far, position) for far in range(3) for position in range(far + 1)))

    def test_a_job_without_steps(self):
        self.assertEqual(paper(EMPTY), ((), (((1, -1, 0),),)))
        self.assertTrue(accepts(EMPTY, (), paper(EMPTY)))
        self.assertFalse(accepts(EMPTY, (), ((), ())))
        self.assertFalse(accepts(EMPTY, (), ((), ((),))))

    def test_what_is_no_safe_study_without_a_limit(self):
        for value in (None, 0, True, "study", (), [], FIVE, Marks(FIVE), Study, Study(ADDING, Marks(ADDING)),
                      Study(FIVE, Marks(FIVE), 0), Study(FIVE, Marks(FIVE), 60), Study(ADDING, Marks(ADDING), 0),
                      paper(FIVE)):
            self.assert_value(InvalidStudy, value, safe_paper, value)


class TestIsSafePaper(Told):
    def test_the_examples_of_the_document(self):
        rows = [((), (), ((1, 0, -5),)), ((), (), ()), ((), ((1, 0, -5),), ())]
        self.assertEqual([is_safe_paper(FIVE, Marks(FIVE), ((), told)) for told in rows], [True, False, False])
        self.assertIs(is_safe_paper(job=FIVE, marks=Marks(FIVE), candidate=paper(FIVE)), True)

    def test_papers_of_safe_studies(self):
        random = Random(25)
        safe = 0
        for _ in range(80):
            job = job_by_chance(random, 8, 12)
            marks = Marks(job, marked_by_chance(random, job))
            study = Study(job, marks)
            if study.is_safe:
                safe += 1
                self.assertIs(is_safe_paper(parse_job(format_job(job)), marks, safe_paper(study)), True)
        self.assertGreater(safe, 30)

    def test_equations_are_true_of_the_runs(self):
        # Whatever is accepted by chance is made of equations that hold.
        random = Random(26)
        accepted = refused = 0
        for _ in range(60):
            job = job_by_chance(random, 5, 6, least=1)
            marks = Marks(job, marked_by_chance(random, job))
            study = Study(job, marks)
            if not study.is_safe:
                continue
            for _ in range(20):
                other = changed(random, safe_paper(study))
                told = is_safe_paper(job, marks, other)
                states = [(far, position) for far in range(len(job) + 1) for position in range(far + 1)]
                holds = all(form in ~study.space(*state) for state, row in zip(states, other[1]) for form in row)
                if told:
                    self.assertTrue(holds)
                    accepted += 1
                else:
                    refused += 1
        self.assertTrue(accepted > 0 and refused > 300, (accepted, refused))

    def test_no_paper_of_an_unsafe_job(self):
        for places, rows in (((), (((1, -1, 0),), (), ((1, -1, -1),))), ((), (((1, -1, 0),), ((1, -1, -1),), ((1, -1, -1),))),
                             ((), (((1, -1, 0),), ((1, 0, 0), (0, 1, 0), (0, 0, 1)), ((1, 0, 0), (0, 1, 0), (0, 0, 1))))):
            self.assertFalse(accepts(ADDING, places, ((), rows)))
        self.assertTrue(accepts(ADDING, (0,), ((), (((1, -1, 0),), ((1, -1, -1),), ((1, -1, -1),)))))

    def test_equations_at_the_beginning_must_hold(self):
        everything = ((1, 0, 0), (0, 1, 0), (0, 0, 1))
        self.assertFalse(accepts(FIVE, (), ((), (everything,) * 3)))
        self.assertFalse(accepts(FIVE, (), ((), (((1, 0, -5),), (), ((1, 0, -5),)))))
        self.assertTrue(accepts(FIVE, (), ((), (((1, -1, 0), (2, -2, 0), (0, 0, 0)), (), ((1, 0, -5),)))))

    def test_equations_are_kept_by_failures(self):
        job = parse_job("store s: x\nlocal t\njob\n  set t = 3\n  set x = t\nend")
        found = paper(job)
        self.assertTrue(accepts(job, (), found))
        # Behind a failure the local is 0: an equation with it at position 0 does not come back to itself.
        at_bottom = ((0, 0, 1, -3),)
        for at in (1, 3):
            self.assertFalse(accepts(job, (), with_row(found, at, at_bottom)))

    def test_equations_are_kept_for_all_taken_values(self):
        moments, rows = paper(TAKING, (1,))
        self.assertTrue(accepts(TAKING, (1,), (moments, rows)))
        # now x, first x, t, seen 0 0, seen 0 1, one: that t is 0 holds for the taken value 0 only.
        self.assertFalse(accepts(TAKING, (1,), (moments, rows[:2] + (rows[2] + ((0, 0, 1, 0, 0, 0),),) + rows[3:])))
        self.assertFalse(accepts(TAKING, (1,), (moments, rows[:2] + (rows[2] + ((0, 0, 1, 0, 0, -1),),) + rows[3:])))

    def test_other_moments(self):
        _, rows = paper(TAKING, (1,))
        self.assertEqual([accepts(TAKING, (1,), (moments, rows)) for moments in
                          ((1,), (0,), (2,), (-1,), (), (1, 1), (True,), (None,), [1], 1, None, "1", (1.0,))],
                         [True] + [False] * 12)
        moments, rows = paper(TWO, (0, 1, 2, 3))
        self.assertEqual(moments, (0, 1))
        # Marked takes are seen alike at all moments; the equations tell so.
        self.assertTrue(accepts(TWO, (0, 1, 2, 3), ((3, 2), rows)))
        for wrong in ((0, 0), (0,), (0, 4), (4, 1), (0, 1, 1), (1, 0)):
            self.assertFalse(accepts(TWO, (0, 1, 2, 3), (wrong, rows)))

    def test_an_equation_that_is_left_out_or_put_in(self):
        found = paper(TAKING, (1,))
        rows = found[1]
        self.assertFalse(accepts(TAKING, (1,), with_row(found, 5, rows[5][1:])))
        self.assertTrue(accepts(TAKING, (1,), with_row(found, 5, rows[5][:1])))
        self.assertTrue(accepts(TAKING, (1,), with_row(found, 5, rows[5] + rows[5])))
        self.assertTrue(accepts(TAKING, (1,), with_row(found, 5, rows[5][::-1])))
        self.assertTrue(accepts(TAKING, (1,), with_row(found, 5, rows[5] + (tuple(7 * entry for entry in rows[5][0]),))))
        self.assertFalse(accepts(TAKING, (1,), with_row(found, 5, rows[5] + ((1, 0, 0, 0, 0, 0),))))
        self.assertFalse(accepts(TAKING, (1,), with_row(found, 0, ())))

    def test_marks_count(self):
        found = paper(TAKING, (1,))
        self.assertEqual([accepts(TAKING, places, found) for places in ((), (0,), (1,), (0, 1))],
                         [False, False, True, False])
        self.assertEqual(accepts(TAKING, (0, 1), paper(TAKING, (0, 1))), True)

    def test_other_forms(self):
        found = moments, rows = paper(TAKING, (1,))
        wrong = [[moments, rows], (moments,), (moments, rows, ()), (list(moments), rows), (moments, list(rows)), (rows, moments),
                 (moments, rows[:-1]), (moments, rows + ((),)), (moments, (rows,)), (moments, None), (None, rows), None, 0,
                 "paper", (), {}, Study(TAKING, Marks(TAKING, (1,))), (moments, "abcdef"), (moments, rows[5]), True]
        wrong += [with_row(found, 5, row) for row in (list(rows[5]), [()], None, 0, "ab", rows[5][0], ((),), (None,),
                                                      rows[5] + ([1, -1, 0, 0, -1, 0],), rows[5] + ((0,) * 5,),
                                                      rows[5] + ((0,) * 7,), rows[5] + ((False,) * 6,), rows[5] + ((0.0,) * 6,),
                                                      ((True, -1, 0, 0, -1, 0),), (list(rows[5][0]),), rows[5] + ("abcdef",))]
        for candidate in wrong:
            self.assertIs(accepts(TAKING, (1,), candidate), False)

    def test_long_numbers(self):
        number = 10 ** 100 - 1
        job = parse_job(f"store s: x y\nlocal t\njob\n  set t = {number} * x + {number}\n  set y = {number} * t\nend")
        found = paper(job)
        self.assertTrue(accepts(job, (), found))
        random = Random(27)
        for _ in range(20):
            self.assertFalse(accepts(job, (), changed(random, found)))

    def test_the_greatest_job(self):
        step = ("atomic", tuple(("set", name, ("sum", 1, ((2, name), (1, "i")))) for name in "abcd"))
        steps = (("atomic", (("take", "t"),)), ("atomic", (("take", "u"),)), ("repeat", "i", (1, 2, 3, 4), (step,) * 3),
                 ("set", "a", ("sum", 0, ((1, "t"),))), ("set", "b", ("sum", 0, ((1, "u"),))))
        job = Job((("s", ("a", "b", "c", "d")),), (), ("t", "u"), steps)
        places = tuple(range(job.places))
        found = paper(job, places)
        self.assertEqual((len(job), len(found[1])), (16, 153))
        self.assertTrue(accepts(job, places, found))
        self.assertFalse(accepts(job, places, with_row(found, 100, ())))

    def test_errors_in_order(self):
        for value in (None, 0, "job", SENDING, Job):
            self.assert_no_job(is_safe_paper, value, None, None)
        for value in NO_TUPLES + (FIVE, Marks(ADDING)):
            self.assert_value(InvalidMarks, value, is_safe_paper, FIVE, value, None)


if __name__ == "__main__":
    unittest.main()
