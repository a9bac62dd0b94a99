"""Points 2, 4 and 5: vectors and spaces."""

import unittest
from fractions import Fraction
from math import gcd
from random import Random

from reference import Told
from retrysafe.errors import DifferentWidths, InvalidSpace, InvalidVectors, InvalidWidth
from retrysafe.jobs import Job
from retrysafe.spaces import Space

BIG = 10 ** 3000 + 7


def slow_basis(width, vectors):
    """The basis of point 4, found with fractions, one column behind the other."""
    rows = [[Fraction(entry) for entry in vector] for vector in vectors]
    done = 0
    for column in range(width):
        rest = [row for row in rows[done:] if row[column]]
        if not rest:
            continue
        rows.remove(rest[0])
        rows.insert(done, [entry / rest[0][column] for entry in rest[0]])
        for at, row in enumerate(rows):
            if at != done:
                rows[at] = [ours - row[column] * theirs for ours, theirs in zip(row, rows[done])]
        done += 1
    return tuple(whole(row) for row in rows[:done])


def whole(row):
    """The primitive vector that is a positive multiple of a row of fractions."""
    scale = 1
    for entry in row:
        scale = scale * entry.denominator // gcd(scale, entry.denominator)
    numbers = [int(entry * scale) for entry in row]
    return tuple(number // gcd(*numbers) for number in numbers)


def product(one, other):
    return sum(ours * theirs for ours, theirs in zip(one, other))


def unit(width, at):
    return tuple(int(column == at) for column in range(width))


def some_vectors(random, width, most):
    """Vectors of which some are sums of others, so that spaces of all sizes come up."""
    vectors = [tuple(random.choice((0, 0, 1, -1, 2, 6, -35)) for _ in range(width))
               for _ in range(random.randint(0, most))]
    for _ in range(random.randint(0, 2)):
        if vectors:
            one, other = random.choice(vectors), random.choice(vectors)
            vectors.append(tuple(3 * ours - 2 * theirs for ours, theirs in zip(one, other)))
    return vectors


class TestBasis(Told):
    def test_the_example_of_the_document(self):
        space = Space(3, [(1, 2, 0), (2, 4, 0), (0, 0, -3)])
        self.assertEqual(space.basis, ((1, 2, 0), (0, 0, 1)))
        self.assertIs((5, 10, 7) in space, True)
        self.assertEqual((~space).basis, ((2, -1, 0),))
        self.assertEqual(len(space | Space(3, [(1, 0, 0)])), 3)

    def test_arguments_by_name_and_default(self):
        self.assertEqual(Space(width=2, vectors=[(0, 3)]).basis, ((0, 1),))
        self.assertEqual(Space(width=2).basis, ())
        self.assertEqual(Space(2, ()).basis, Space(2, []).basis)

    def test_no_vectors_and_zero_vectors(self):
        for vectors in ((), [], ((0, 0),), [(0, 0), (0, 0)]):
            space = Space(2, vectors)
            self.assertEqual((space.basis, len(space), space.width), ((), 0, 2))
            self.assertIn((0, 0), space)
            self.assertNotIn((0, 1), space)

    def test_width_one(self):
        self.assertEqual(Space(1, [(-5,), (3,)]).basis, ((1,),))
        self.assertEqual(Space(1, [(0,)]).basis, ())

    def test_width_128(self):
        space = Space(128, [unit(128, 127), tuple(range(128))])
        self.assertEqual(space.basis, (tuple(range(127)) + (0,), unit(128, 127)))
        self.assertEqual(len(~space), 126)
        self.assertEqual(space.width, 128)

    def test_all_vectors_of_width_128(self):
        vectors = [tuple(column ** 2 + at * column + int(column == at) for column in range(128)) for at in range(128)]
        space = Space(128, vectors + [unit(128, 0), unit(128, 1)])
        self.assertEqual(space.basis, tuple(unit(128, at) for at in range(128)))
        self.assertEqual((~space).basis, ())

    def test_pivots_are_positive_and_entries_primitive(self):
        self.assertEqual(Space(3, [(0, -4, 6)]).basis, ((0, 2, -3),))
        self.assertEqual(Space(2, [(-1, 0)]).basis, ((1, 0),))

    def test_entries_at_the_other_pivots_are_zero(self):
        self.assertEqual(Space(4, [(1, 1, 1, 1), (0, 2, 1, 0), (0, 0, 0, 5)]).basis,
                         ((2, 0, 1, 0), (0, 2, 1, 0), (0, 0, 0, 1)))

    def test_the_order_of_the_vectors_has_no_effect(self):
        self.assertEqual(Space(3, [(0, 0, 2), (0, 3, 1), (1, 1, 1)]).basis, tuple(unit(3, at) for at in range(3)))
        self.assertEqual(Space(3, [(0, 3, 1), (2, 1, 1)]), Space(3, [(2, 1, 1), (0, 3, 1)]))

    def test_multiples_and_sums_of_other_vectors(self):
        self.assertEqual(Space(3, [(1, 2, 3), (-2, -4, -6), (1, 1, 1), (2, 3, 4), (0, 0, 0)]).basis,
                         ((1, 0, -1), (0, 1, 2)))

    def test_entries_of_many_digits_and_below_zero(self):
        self.assertEqual(Space(2, [(BIG, -3 * BIG)]).basis, ((1, -3),))
        self.assertEqual(Space(3, [(BIG, 0, -1), (0, -BIG, 2)]).basis, ((BIG, 0, -1), (0, BIG, -2)))
        self.assertEqual(Space(2, [(BIG, BIG + 1), (BIG - 1, BIG)]).basis, ((1, 0), (0, 1)))
        self.assertEqual((~Space(2, [(BIG, -BIG - 1)])).basis, ((BIG + 1, BIG),))

    def test_bases_are_those_that_fractions_give(self):
        random = Random(4)
        for _ in range(300):
            width = random.randint(1, 7)
            vectors = some_vectors(random, width, 6)
            self.assertEqual(Space(width, vectors).basis, slow_basis(width, vectors))

    def test_a_basis_gives_its_space(self):
        random = Random(5)
        for _ in range(50):
            space = Space(5, some_vectors(random, 5, 4))
            self.assertEqual(Space(5, space.basis), space)
            self.assertEqual(Space(5, list(space.basis)[::-1]).basis, space.basis)

    def test_wrong_widths(self):
        for value in (0, -1, 129, True, False, None, "3", (3,), [3], 3.0, 10 ** 100, Space(1)):
            self.assert_raised(InvalidWidth, {"value": value}, Space, value, [(1, 2, 3)])

    def test_wrong_vectors(self):
        for value in (None, 3, "abc", {(1, 2)}, {(1, 2): 0}, iter([(1, 2)]), Space(2)):
            self.assert_raised(InvalidVectors, {"position": None}, Space, 2, value)

    def test_wrong_vectors_within(self):
        for wrong in ([1, 2], (1,), (1, 2, 3), (), (True, 0), (0, False), ("a", 1), (1.0, 2), None, 5, "ab",
                      ((1,), 2), Space(2)):
            self.assert_raised(InvalidVectors, {"position": 0}, Space, 2, [wrong, (1, 2)])
            self.assert_raised(InvalidVectors, {"position": 2}, Space, 2, ((1, 2), (0, 0), wrong, None))

    def test_the_width_is_looked_at_first(self):
        self.assert_raised(InvalidWidth, {"value": 0}, Space, 0, None)
        self.assert_raised(InvalidWidth, {"value": True}, Space, True, [(1,), 2])


class TestOperators(Told):
    def test_len_and_width(self):
        space = Space(4, [(1, 0, 0, 0), (1, 1, 0, 0)])
        self.assertEqual((len(space), space.width), (2, 4))

    def test_in(self):
        space = Space(3, [(2, 4, 0), (0, 0, 3)])
        for vector in ((1, 2, 0), (-1, -2, 1), (0, 0, 0), (BIG, 2 * BIG, -BIG)):
            self.assertIs(vector in space, True)
        for vector in ((1, 1, 0), (0, 1, 0), (2, 4 + BIG, 0)):
            self.assertIs(vector in space, False)

    def test_in_of_any_object(self):
        space = ~Space(2)
        self.assertIn((0, 1), space)
        for value in (None, 0, True, "ab", [0, 1], (0,), (0, 0, 0), (), (True, 1), (0, False), (0, 1.0), {0: 1}, {0, 1},
                      (None, None), ([], []), space, Space, ((0, 1),)):
            self.assertIs(value in space, False)

    def test_or(self):
        one, other = Space(3, [(1, 0, 0)]), Space(3, [(1, 1, 0)])
        self.assertEqual((one | other).basis, ((1, 0, 0), (0, 1, 0)))
        self.assertEqual(one | one, one)
        self.assertEqual(one | Space(3), one)

    def test_and(self):
        one, other = Space(3, [(1, 0, 0), (0, 1, 0)]), Space(3, [(0, 1, 1), (1, 1, 0)])
        self.assertEqual((one & other).basis, ((1, 1, 0),))
        self.assertEqual(one & one, one)
        self.assertEqual(one & Space(3), Space(3))
        self.assertEqual(one & ~Space(3), one)

    def test_invert(self):
        self.assertEqual((~Space(3)).basis, tuple(unit(3, at) for at in range(3)))
        self.assertEqual(~~Space(3), Space(3))
        self.assertEqual((~Space(3, [(2, 3, 5)])).basis, ((5, 0, -2), (0, 5, -3)))

    def test_spaces_and_their_duals(self):
        random = Random(6)
        for _ in range(200):
            width = random.randint(1, 7)
            space = Space(width, some_vectors(random, width, 6))
            dual = ~space
            self.assertEqual(len(space) + len(dual), width)
            self.assertEqual({product(one, other) for one in space.basis for other in dual.basis} - {0}, set())
            self.assertEqual(dual.basis, slow_basis(width, dual.basis))
            self.assertEqual(~dual, space)

    def test_sums_and_common_vectors(self):
        random = Random(7)
        for _ in range(200):
            width = random.randint(1, 6)
            one, other = [Space(width, some_vectors(random, width, 4)) for _ in range(2)]
            joined, common = one | other, one & other
            self.assertEqual(joined.basis, slow_basis(width, one.basis + other.basis))
            self.assertEqual(common.basis, slow_basis(width, common.basis))
            self.assertTrue(all(vector in one and vector in other for vector in common.basis))
            self.assertEqual(len(common), len(one) + len(other) - len(joined))
            self.assertEqual(one.is_within(other), common == one)
            self.assertTrue(common.is_within(one) and one.is_within(joined))

    def test_is_within(self):
        plane = Space(3, [(1, 0, 0), (0, 1, 0)])
        self.assertIs(Space(3, [(3, -2, 0)]).is_within(plane), True)
        self.assertIs(plane.is_within(other=plane), True)
        self.assertIs(Space(3).is_within(plane), True)
        self.assertIs(plane.is_within(Space(3, [(1, 0, 0)])), False)
        self.assertIs(Space(3, [(0, 0, 1)]).is_within(plane), False)

    def test_equality(self):
        self.assertTrue(Space(2, [(1, 1)]) == Space(2, ((-3, -3), (0, 0))))
        self.assertFalse(Space(2, [(1, 1)]) == Space(2, [(1, 2)]))
        self.assertTrue(Space(2, [(1, 1)]) != Space(2, [(1, 2)]))
        self.assertFalse(Space(2) == Space(3))
        for value in (None, (), ((1, 1),), 0, "space", ((1, 0), (0, 1))):
            self.assertFalse(Space(2) == value)
            self.assertTrue(Space(2) != value)

    def test_wrong_operands(self):
        space = Space(2, [(1, 2)])
        job = Job((("s", ("x",)),), (), (), ())
        for value in (None, 2, True, (1, 2), [(1, 2)], {(1, 2)}, "space", Space, job):
            for action in (space.__or__, space.__and__, space.is_within):
                self.assert_raised(InvalidSpace, {"value": value}, action, value)
        with self.assertRaises(InvalidSpace):
            space | 3
        with self.assertRaises(InvalidSpace):
            space & ((1, 2),)

    def test_different_widths(self):
        one, other = Space(2), Space(100)
        for action in (one.__or__, one.__and__, one.is_within):
            self.assert_raised(DifferentWidths, {"one": 2, "other": 100}, action, other)

    def test_other_operators_are_errors(self):
        space = Space(2)
        for action in (lambda: 3 | space, lambda: None & space, lambda: space - space, lambda: space < space,
                       lambda: space + space, lambda: space[0]):
            with self.assertRaises(TypeError):
                action()


class TestConstancy(Told):
    def test_spaces_are_not_iterated(self):
        with self.assertRaises(TypeError):
            iter(Space(2, [(1, 2)]))

    def test_arguments_are_not_changed_and_have_no_later_effect(self):
        vectors = [(2, 4), (0, 0), (1, 2)]
        space = Space(2, vectors)
        self.assertEqual(vectors, [(2, 4), (0, 0), (1, 2)])
        vectors.append((0, 1))
        vectors[0] = None
        self.assertEqual(space.basis, ((1, 2),))
        self.assertNotIn((0, 1), space)

    def test_operators_change_no_operand(self):
        one, other = Space(3, [(1, 2, 0)]), Space(3, [(0, 1, 0), (0, 0, 1)])
        found = [one | other, one & other, ~one, one.is_within(other), one == other, (1, 2, 0) in one]
        self.assertEqual(len(found), 6)
        self.assertEqual((one, other), (Space(3, [(1, 2, 0)]), Space(3, [(0, 1, 0), (0, 0, 1)])))
        one |= other
        self.assertEqual(len(one), 3)
        self.assertEqual(len(other), 2)

    def test_errors_change_nothing(self):
        space = Space(2, [(1, 2)])
        self.assert_raised(InvalidSpace, {"value": None}, space.is_within, None)
        self.assertEqual(space, Space(2, [(1, 2)]))

    def test_properties_cannot_be_set(self):
        for name in ("basis", "width"):
            with self.assertRaises(AttributeError):
                setattr(Space(2), name, 3)

    def test_the_basis_is_a_tuple_of_tuples(self):
        for space in (Space(2, [(0, -2)]), ~Space(2), Space(2) | ~Space(2), ~Space(2) & ~Space(2)):
            self.assertIs(type(space.basis), tuple)
            self.assertEqual({type(vector) for vector in space.basis}, {tuple})


if __name__ == "__main__":
    unittest.main()
