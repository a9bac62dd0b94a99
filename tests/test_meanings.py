"""Points 2, 9 and 10: matrices and the meaning of jobs."""

import unittest
from random import Random

from reference import NO_INTEGERS, NO_TUPLES, SlowRun, Told, job_by_chance, numbers_by_chance, taken_by_chance, takers
from retrysafe.errors import (
    InvalidArguments, InvalidMatrix, InvalidTaken, InvalidValues, InvalidVectors, InvalidWidth)
from retrysafe.jobs import Job
from retrysafe.meanings import Matrix, meaning, plain_run
from retrysafe.spaces import Space
from retrysafe.texts import parse_job

BIG = 10 ** 3000 + 7
TAKING = parse_job("store s: x\nlocal t\njob\n  take t\n  set x = 2 * t + x\nend")
SENDING = parse_job("store s: x\njob\n  set x = 1\n  repeat i in 1\n    send box i\n  end\nend")


class TestMatrix(Told):
    def test_rows(self):
        rows = ((1, 2, 3), (4, 5, -6))
        self.assertEqual(Matrix(rows).rows, rows)
        self.assertEqual(Matrix(rows=rows).rows, rows)
        self.assertEqual(Matrix(((BIG,),)).rows, ((BIG,),))

    def test_product(self):
        one, other = Matrix(((1, 2, 3), (4, 5, -6))), Matrix(((1, 0), (0, 2), (10, 1)))
        self.assertEqual((one * other).rows, ((31, 7), (-56, 4)))
        self.assertEqual((other * one).rows, ((1, 2, 3), (8, 10, -12), (14, 25, 24)))
        self.assertEqual((Matrix(((2,),)) * Matrix(((3, 4),))).rows, ((6, 8),))
        self.assertEqual((Matrix(((BIG,),)) * Matrix(((-BIG,),))).rows, ((-BIG * BIG,),))

    def test_products_by_chance(self):
        random = Random(9)
        for _ in range(50):
            high, middle, wide, far = (random.randint(1, 5) for _ in range(4))
            one, other, last = (Matrix(tuple(tuple(random.randint(-9, 9) for _ in range(columns)) for _ in range(rows)))
                                for rows, columns in ((high, middle), (middle, wide), (wide, far)))
            self.assertEqual((one * other) * last, one * (other * last))
            vector = tuple(random.randint(-9, 9) for _ in range(wide))
            self.assertEqual((one * other)(vector), one(other(vector)))
            self.assertEqual((one * other).rows,
                             tuple(tuple(sum(one.rows[row][at] * other.rows[at][column] for at in range(middle))
                                         for column in range(wide)) for row in range(high)))

    def test_one_and_forty_rows_and_columns(self):
        wide = Matrix((tuple(range(40)),))
        high = Matrix(tuple((at,) for at in range(40)))
        self.assertEqual((wide * high).rows, ((sum(at * at for at in range(40)),),))
        square = high * wide
        self.assertEqual((len(square.rows), len(square.rows[39]), square.rows[39][39]), (40, 40, 1521))
        self.assertEqual(square * Matrix.unit(40), square)
        self.assertEqual(Matrix.unit(40) * square, square)

    def test_call(self):
        matrix = Matrix(((1, 2, 3), (4, 5, -6)))
        self.assertEqual(matrix((1, 1, 1)), (6, 3))
        self.assertEqual(matrix(vector=(BIG, 0, -BIG)), (-2 * BIG, 10 * BIG))

    def test_unit(self):
        self.assertEqual(Matrix.unit(1).rows, ((1,),))
        self.assertEqual(Matrix.unit(size=3).rows, ((1, 0, 0), (0, 1, 0), (0, 0, 1)))
        self.assertEqual((Matrix.unit(3) * Matrix.unit(3)).rows[1], (0, 1, 0))
        self.assertEqual(Matrix.unit(40).rows[39], (0,) * 39 + (1,))
        self.assertIsInstance(vars(Matrix)["unit"], staticmethod)

    def test_equality(self):
        matrix = Matrix(((1, 2), (3, 4)))
        self.assertTrue(matrix == Matrix(((1, 2), (3, 4))))
        self.assertFalse(matrix != Matrix(((1, 2), (3, 4))))
        for other in (Matrix(((1, 2), (3, 5))), Matrix(((1, 2),)), Matrix(((1,), (3,))), ((1, 2), (3, 4)), None, 1,
                      Space(2, [(1, 0), (0, 1)])):
            self.assertFalse(matrix == other)
            self.assertTrue(matrix != other)

    def test_wrong_rows(self):
        for value in NO_TUPLES + ((), ((),), (1, 2), ([1, 2],), [(1, 2)], ((1, 2), (3,)), ((1,), (2, 3)), ((1, 2), [3, 4]),
                                  ((True, 2),), ((1, False),), ((1.0,),), (("1",),), ((None,),), "ab", ("ab",), (((1,),),),
                                  ((1,),) * 41, (tuple(range(41)),), Matrix.unit(2)):
            self.assert_value(InvalidMatrix, value, Matrix, value)

    def test_wrong_operands(self):
        matrix = Matrix(((1, 2, 3), (4, 5, 6)))
        for value in (None, 2, True, (1, 2, 3), ((1, 2, 3),), Matrix(((1, 2, 3), (4, 5, 6))), Matrix.unit(2),
                      Matrix.unit(4), "ab", Matrix, Space(3)):
            self.assert_value(InvalidMatrix, value, matrix.__mul__, value)
        with self.assertRaises(InvalidMatrix):
            matrix * 2
        with self.assertRaises(TypeError):
            2 * matrix

    def test_wrong_vectors(self):
        matrix = Matrix(((1, 2), (4, 5)))
        for value in NO_TUPLES + ([1, 2], (1,), (1, 2, 3), (), (True, 1), (1, False), (1.0, 2), ("a", "b"), "ab", matrix):
            self.assert_raised(InvalidVectors, {"position": None}, matrix, value)

    def test_wrong_sizes(self):
        for value in NO_INTEGERS + (0, -1, 41, 10 ** 30, Matrix.unit(2)):
            self.assert_value(InvalidWidth, value, Matrix.unit, value)

    def test_matrices_are_constant_and_not_iterated(self):
        matrix = Matrix.unit(2)
        with self.assertRaises(AttributeError):
            matrix.rows = ()
        for action in (iter, len, lambda it: it[0], lambda it: (1, 0) in it):
            with self.assertRaises(TypeError):
                action(matrix)


class TestMeaning(Told):
    def test_the_example_of_the_document(self):
        self.assertEqual(meaning(TAKING).rows, ((1, 2, 0),))
        self.assertEqual(plain_run(TAKING, (1,), (), (5,)), (11,))
        self.assertEqual(meaning(TAKING)((1, 5, 1)), (11,))

    def test_a_job_without_steps(self):
        job = Job((("s", ("x", "y")),), ("n",), ("t",), ())
        self.assertEqual(meaning(job).rows, ((1, 0, 0, 0), (0, 1, 0, 0)))
        self.assertEqual(plain_run(job, (3, 4), (9,), ()), (3, 4))

    def test_arguments_items_constants_and_two_takes(self):
        job = parse_job("store p: x\nstore q: y\ngiven n m\nlocal t\njob\n  repeat i in 2 -3\n    atomic\n      take t\n"
                        "      set x = 10 * i + t + x\n    end\n  end\n  set y = m - 2 * n - t + 7\nend")
        self.assertEqual(meaning(job).rows, ((1, 0, 0, 0, 1, 1, -10), (0, 0, -2, 1, 0, -1, 7)))
        self.assertEqual(plain_run(job, (1, 2), (3, 4), (100, 1000)), (1091, -995))

    def test_locals_begin_with_0(self):
        job = parse_job("store s: x\nlocal t\njob\n  set x = t + x\n  set t = 5\nend")
        self.assertEqual(plain_run(job, (1,), (), ()), (1,))

    def test_what_atomic_writes_is_read_within(self):
        job = parse_job("store s: x y\njob\n  atomic\n    set x = y\n    set y = x + 1\n  end\nend")
        self.assertEqual(plain_run(job, (1, 2), (), ()), (2, 3))

    def test_long_numbers(self):
        number = 10 ** 100 - 1
        job = parse_job(f"store s: x\njob\n  repeat i in 1 1 1 1\n    set x = {number} * x - {number}\n  end\nend")
        self.assertEqual(meaning(job).rows[0][0], number ** 4)
        self.assertEqual(plain_run(job, (BIG,), (), ()), (BIG * number ** 4 - number * (number ** 4 - 1) // (number - 1),))

    def test_by_chance(self):
        random = Random(10)
        for _ in range(200):
            job = job_by_chance(random, 9, 16)
            values, arguments = numbers_by_chance(random, job)
            taken = taken_by_chance(random, len(takers(job)))
            ended = tuple(SlowRun(job, (), values, arguments, taken).follow(()).durable.values())
            self.assertEqual(plain_run(job=job, values=values, arguments=arguments, taken=taken), ended)
            self.assertEqual(meaning(job=job)(values + arguments + taken + (1,)), ended)
            self.assertEqual(len(meaning(job).rows), len(job.variables))

    def test_what_is_no_job(self):
        for value in (None, 0, "store s: x\njob\nend", (TAKING.stores, (), (), ()), [TAKING], Job, SENDING):
            self.assert_no_job(meaning, value)
            self.assert_no_job(plain_run, value, (1,), (), ())
            self.assert_no_job(plain_run, value, None, None, None)

    def test_wrong_numbers(self):
        for wrong in ([1], (), (1, 2), (True,), (1.0,), ("1",), None, 1, "1", {1: 1}):
            self.assert_value(InvalidValues, wrong, plain_run, TAKING, wrong, (1,), (True,))
            self.assert_value(InvalidTaken, wrong, plain_run, TAKING, (1,), (), wrong)
        for wrong in ([], (1,), None, 0, (None,), "", {}):
            self.assert_value(InvalidArguments, wrong, plain_run, TAKING, (1,), wrong, None)


if __name__ == "__main__":
    unittest.main()
