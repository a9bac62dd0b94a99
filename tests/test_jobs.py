"""Points 2, 6 and 7: jobs."""

import unittest

from retrysafe.errors import InvalidJob, UnknownPlace
from retrysafe.jobs import Job
from retrysafe.spaces import Space

STORES = (("bank", ("a", "b")), ("log", ("c",)))
LONG = 10 ** 99 + 1
TOO_LONG = 10 ** 100
WORDS = ("store", "given", "local", "job", "end", "set", "take", "atomic", "repeat", "in", "send", "read")
NO_NAMES = WORDS + ("", "A", "aB", "a1", "a_b", "a b", " a", "abcdefghi", "a\n", "\u00e9", "\u0430", b"a", None, 0, True,
                    ("a",), ["a"], {"a": 0}, Space(1))
NO_TUPLES = (None, 0, True, "", "ab", [], {}, set(), Space(1))
NO_SHORT_INTEGERS = (True, False, None, "1", 1.0, (1,), [1], TOO_LONG, -TOO_LONG)


def plain(constant):
    return "sum", constant, ()


def setting(name, constant=0, terms=()):
    return "set", name, ("sum", constant, terms)


def job_of(*steps):
    """A job with two stores, one argument and one local."""
    return Job(STORES, ("n",), ("t",), steps)


class Told(unittest.TestCase):
    def assert_invalid(self, part, *args, **named):
        with self.assertRaises(InvalidJob) as caught:
            Job(*args, **named)
        self.assertEqual(caught.exception.part, part)

    def assert_wrong_steps(self, *steps):
        with self.assertRaises(InvalidJob) as caught:
            job_of(*steps)
        self.assertEqual(caught.exception.part, "steps", steps)

    def assert_too_large(self, *steps):
        with self.assertRaises(InvalidJob) as caught:
            job_of(*steps)
        self.assertEqual(caught.exception.part, "size", steps)


class TestJob(Told):
    def test_a_job_with_all_kinds_of_statements(self):
        steps = (
            ("take", "t"),
            setting("a", -3, ((-1, "n"), (2, "t"))),
            ("repeat", "i", (1, 1), (setting("b", 0, ((1, "b"), (1, "i"))), ("send", "box", (plain(1),)))),
            ("atomic", (setting("c", 1, ((1, "c"),)), ("take", "t"))),
            ("send", "box", ()),
        )
        job = job_of(*steps)
        self.assertEqual(job.stores, STORES)
        self.assertEqual((job.arguments, job.temps), (("n",), ("t",)))
        self.assertEqual(job.steps, steps)
        self.assertEqual(job.variables, ("a", "b", "c"))
        self.assertEqual(job.executions, ((0, None), (1, None), (3, 1), (4, 1), (3, 1), (4, 1), (5, None), (6, None)))
        self.assertEqual((len(job), job.places), (8, 7))

    def test_the_job_of_the_document(self):
        steps = (("set", "a", ("sum", 0, ((1, "a"), (-1, "n")))), ("set", "b", ("sum", 0, ((1, "b"), (1, "n")))))
        job = Job((("bank", ("a", "b")),), ("n",), (), steps)
        self.assertEqual((job.executions, job.places), (((0, None), (1, None)), 2))

    def test_arguments_by_name(self):
        named = Job(steps=(), temps=("t",), arguments=("n",), stores=STORES)
        self.assertEqual(named, Job(STORES, ("n",), ("t",), ()))
        self.assertEqual(job_of(("take", "a")).statement(place=0), ("take", "a"))

    def test_a_job_without_steps(self):
        job = Job((("s", ("x",)),), (), (), ())
        self.assertEqual((len(job), job.places, job.executions, job.steps), (0, 0, (), ()))
        self.assertEqual((job.variables, job.arguments, job.temps), (("x",), (), ()))
        with self.assertRaises(UnknownPlace):
            job.statement(0)

    def test_three_stores_with_five_variables(self):
        stores = (("p", ("e", "d")), ("q", ("c",)), ("r", ("b", "a")))
        job = Job(stores, ("f", "g", "h"), ("i", "j", "k"), ())
        self.assertEqual(job.variables, ("e", "d", "c", "b", "a"))
        self.assertEqual((job.arguments, job.temps), (("f", "g", "h"), ("i", "j", "k")))

    def test_nine_places(self):
        rounds = ("repeat", "i", (4,), (setting("a"), setting("b"), setting("t")))
        job = job_of(*[setting("a")] * 5, rounds)
        self.assertEqual((job.places, len(job)), (9, 8))
        self.assertEqual(job.executions[4:], ((4, None), (6, 4), (7, 4), (8, 4)))

    def test_sixteen_executions(self):
        rounds = ("repeat", "i", (4, 4, 0, -1), (setting("a"), setting("b"), setting("t")))
        job = job_of(rounds, *[setting("c")] * 4)
        self.assertEqual((job.places, len(job)), (8, 16))
        self.assertEqual(job.executions[:7], ((1, 4), (2, 4), (3, 4), (1, 4), (2, 4), (3, 4), (1, 0)))
        self.assertEqual(job.executions[11:], ((3, -1), (4, None), (5, None), (6, None), (7, None)))

    def test_two_that_take_and_three_that_send(self):
        sent = ("send", "box", (plain(0),))
        self.assertEqual(len(job_of(("take", "a"), ("atomic", (("take", "b"),)), sent, sent, sent)), 5)
        job = job_of(("repeat", "i", (1, 2), (("take", "a"),)), ("repeat", "i", (1, 2, 3), (sent,)))
        self.assertEqual(job.executions, ((1, 1), (1, 2), (3, 1), (3, 2), (3, 3)))

    def test_one_item_in_several_repeats(self):
        job = job_of(("repeat", "i", (1, 2), (setting("a", 0, ((1, "i"),)),)),
                     ("repeat", "i", (3,), (setting("b", 0, ((1, "i"),)),)),
                     ("repeat", "j", (5, 5), (setting("b", 0, ((1, "j"),)),)))
        self.assertEqual(job.executions, ((1, 1), (1, 2), (3, 3), (5, 5), (5, 5)))

    def test_long_numbers_and_names(self):
        number = 10 ** 100 - 1
        steps = (setting("abcdefgh", -number, ((number, "abcdefgh"),)),
                 ("repeat", "zzzzzzzz", (LONG, -number, number), (setting("abcdefgh", number, ((-number, "zzzzzzzz"),)),)))
        job = Job((("storeabc", ("abcdefgh",)),), (), (), steps)
        self.assertEqual(job.executions, ((0, None), (2, LONG), (2, -number), (2, number)))

    def test_names_of_stores_are_apart_from_the_others(self):
        job = Job((("x", ("y",)), ("y", ("x",))), ("n",), (), (("repeat", "i", (1,), (("send", "x", ()),)),))
        self.assertEqual(job.variables, ("y", "x"))
        self.assertEqual(Job((("n", ("y",)),), ("n",), (), ()).arguments, ("n",))

    def test_sums_read_all_that_is_known(self):
        terms = ((1, "a"), (2, "b"), (3, "c"), (-4, "i"), (5, "n"), (6, "t"))
        inner = (setting("a", 0, terms), ("atomic", (setting("b", 0, terms),)), ("send", "box", (("sum", 7, terms),)))
        self.assertEqual(len(job_of(("repeat", "i", (1,), inner))), 3)

    def test_atomic_statements(self):
        writes = (setting("a"), setting("a"), setting("b"), ("take", "b"))
        self.assertEqual(len(job_of(("atomic", writes), ("atomic", (setting("c"), setting("t"), ("take", "t"))),
                                    ("repeat", "i", (1,), (("atomic", (setting("t"),)),)))), 3)

    def test_equality(self):
        parts = (STORES, ("n",), ("t",), (setting("a"),))
        job = Job(*parts)
        self.assertTrue(job == Job(*parts))
        self.assertFalse(job != Job(*parts))
        others = (
            ((("bank", ("a", "b")), ("logs", ("c",))),) + parts[1:],
            ((("bank", ("a",)), ("log", ("b", "c"))),) + parts[1:],
            (STORES, ("m",)) + parts[2:],
            (STORES, ()) + parts[2:],
            parts[:2] + (("u",), parts[3]),
            parts[:3] + ((setting("a", 1),),),
            parts[:3] + ((setting("a"), setting("a")),),
        )
        for other in others:
            self.assertFalse(job == Job(*other))
            self.assertTrue(job != Job(*other))
        for value in (None, parts, STORES, 0, "job", job.steps, Space(1)):
            self.assertFalse(job == value)
            self.assertTrue(job != value)

    def test_jobs_are_not_iterated_and_not_changed(self):
        job = job_of(setting("a"))
        with self.assertRaises(TypeError):
            iter(job)
        with self.assertRaises(TypeError):
            setting("a") in job
        with self.assertRaises(TypeError):
            job[0]
        for name in ("stores", "arguments", "temps", "steps", "variables", "executions", "places"):
            with self.assertRaises(AttributeError):
                setattr(job, name, ())


class TestStatement(Told):
    def test_at_each_place(self):
        inner = (setting("b", 0, ((1, "i"),)), ("send", "box", ()), ("atomic", (("take", "t"), setting("c"))))
        steps = (setting("a"), ("repeat", "i", (1,), inner), ("take", "c"))
        job = job_of(*steps)
        self.assertEqual([job.statement(place) for place in range(job.places)],
                         [steps[0], steps[1], inner[0], inner[1], inner[2], steps[2]])

    def test_at_what_is_no_place(self):
        job = job_of(setting("a"), setting("b"))
        for value in (True, False, "0", "", -1, 2, 10 ** 100, None, 0.0, [], [0], (0,), {}, job, Space(1)):
            with self.assertRaises(UnknownPlace) as caught:
                job.statement(value)
            self.assertIs(caught.exception.value, value)


class TestNames(Told):
    def test_stores(self):
        wrong = NO_TUPLES + (
            (), ("s",), (("s",),), (("s", ("x",), ()),), (("s", ()),), (("s", ["x"]),), (["s", ("x",)],), (("s", "x"),),
            (("s", ("x", "x")),), [("s", ("x",))],
            (("s", ("x",)), ("s", ("y",))), (("s", ("x",)), ("r", ("x",))),
            (("s", ("a", "b", "c", "d", "e", "f")),), (("s", ("a", "b", "c")), ("r", ("d", "e", "f"))),
            (("p", ("a",)), ("q", ("b",)), ("r", ("c",)), ("s", ("d",))),
        )
        for stores in wrong:
            self.assert_invalid("stores", stores, (), (), ())

    def test_what_is_no_name(self):
        for name in NO_NAMES:
            self.assert_invalid("stores", ((name, ("x",)),), (), (), ())
            self.assert_invalid("stores", (("s", (name,)),), (), (), ())
            self.assert_invalid("arguments", STORES, ("n", name), (), ())
            self.assert_invalid("temps", STORES, (), (name,), ())
            self.assert_wrong_steps(("repeat", name, (1,), (setting("a"),)))
            self.assert_wrong_steps(("send", name, ()))
            self.assert_wrong_steps(("take", name))
            self.assert_wrong_steps(setting(name))
            self.assert_wrong_steps(setting("a", 0, ((1, name),)))

    def test_names_that_begin_with_words_are_names(self):
        names = ("stores", "gives", "locale", "jobs", "ends", "inn", "sent", "reads", "sum", "none")
        for name in names:
            self.assertEqual(Job((("s", (name,)),), (), (), ()).variables, (name,))

    def test_arguments(self):
        for value in (("n", "n"), ("a",), ("n", "c"), ("f", "g", "h", "i"), ["n"], "n", None, {"n": 0}, 0, ("n", None)):
            self.assert_invalid("arguments", STORES, value, (), ())

    def test_temps(self):
        for value in (("t", "t"), ("b",), ("n",), ("f", "g", "h", "i"), ["t"], "t", None, {"t": 0}, 0, ("t", 1)):
            self.assert_invalid("temps", STORES, ("n",), value, ())

    def test_items(self):
        for item in ("a", "c", "n", "t"):
            self.assert_wrong_steps(("repeat", item, (1,), (setting("a"),)))

    def test_the_first_part_that_does_not_apply(self):
        self.assert_invalid("stores", None, None, None, None)
        self.assert_invalid("arguments", STORES, None, None, None)
        self.assert_invalid("temps", STORES, (), None, None)
        self.assert_invalid("steps", STORES, (), (), None)
        self.assert_invalid("arguments", STORES, ("a",), ("a",), ())
        self.assert_invalid("temps", STORES, ("n",), ("n",), (("take", "x"),))
        many = ("repeat", "i", (1, 2, 3, 4), (setting("a"),) * 4)
        self.assert_wrong_steps(many, many)
        self.assert_wrong_steps(many, setting("a"), setting("x"))
        self.assert_wrong_steps(("take", "a"), ("take", "a"), ("take", "a"), None)


class TestSums(Told):
    def test_wrong_sums(self):
        wrong = (
            None, 0, "a", "sum", (), ("sum",), ("sum", 0), ("sum", 0, (), ()), ["sum", 0, ()], ("set", 0, ()), (None, 0, ()),
            (b"sum", 0, ()), (["sum"], 0, ()), ("sum", 0, []), ("sum", 0, None), ("sum", 0, (1, "a")), ("sum", 0, ([1, "a"],)),
            ("sum", 0, ((1,),)), ("sum", 0, ((1, "a", 1),)), ("sum", 0, (("a", 1),)),
        )
        for value in wrong:
            self.assert_wrong_steps(("set", "a", value))
            self.assert_wrong_steps(("send", "box", (value,)))

    def test_wrong_numbers(self):
        for number in NO_SHORT_INTEGERS:
            self.assert_wrong_steps(setting("a", number))
            self.assert_wrong_steps(setting("a", 0, ((number, "a"),)))

    def test_a_factor_zero(self):
        self.assert_wrong_steps(setting("a", 0, ((0, "a"),)))
        self.assert_wrong_steps(setting("a", 0, ((1, "a"), (0, "b"))))

    def test_names_that_do_not_ascend(self):
        self.assert_wrong_steps(setting("a", 0, ((1, "b"), (1, "a"))))
        self.assert_wrong_steps(setting("a", 0, ((1, "a"), (1, "c"), (1, "b"))))
        self.assert_wrong_steps(setting("a", 0, ((1, "a"), (2, "a"))))

    def test_unknown_names(self):
        for name in ("x", "i", "bank", "box"):
            self.assert_wrong_steps(setting("a", 0, ((1, name),)))
            self.assert_wrong_steps(("send", "box", (("sum", 0, ((1, name),)),)))
            self.assert_wrong_steps(("atomic", (setting("a", 0, ((1, name),)),)))
        rounds = ("repeat", "i", (1,), (setting("a", 0, ((1, "i"),)),))
        self.assertEqual(len(job_of(rounds)), 1)
        self.assert_wrong_steps(rounds, setting("a", 0, ((1, "i"),)))
        self.assert_wrong_steps(setting("a", 0, ((1, "i"),)), rounds)
        self.assert_wrong_steps(rounds, ("repeat", "j", (1,), (setting("a", 0, ((1, "i"),)),)))


class TestStatements(Told):
    def test_wrong_steps(self):
        for value in (None, 0, True, "take", [], [("take", "a")], {}, ("take", "a"), (None,), ((),), ("abc",),
                      (["take", "a"],), (("take",),), (("take", "a", "b"),), (("read", "a"),), ((0, "a"),), (([], "a"),),
                      ((("take",), "a"),), (("set", "a"),), (("set", "a", plain(0), 0),), (("job", ()),), (("end",),)):
            self.assert_invalid("steps", STORES, ("n",), ("t",), value)

    def test_what_cannot_be_written(self):
        for name in ("n", "x", "bank", "i", ["a"], None):
            self.assert_wrong_steps(setting(name))
            self.assert_wrong_steps(("take", name))
            self.assert_wrong_steps(("atomic", (setting(name),)))
            self.assert_wrong_steps(("atomic", (("take", name),)))
            self.assert_wrong_steps(("repeat", "i", (1,), (setting(name),)))
            self.assert_wrong_steps(("repeat", "i", (1,), (("take", name),)))

    def test_wrong_atomics(self):
        one = setting("a")
        for inner in ((), (one,) * 5, [one], one, None, 0, (None,), (one, ("send", "box", ())), (("atomic", (one,)),),
                      (("repeat", "i", (1,), (one,)),), (("take", "a"), ("take", "a")), (("take", "t"), ("take", "a")),
                      (setting("a"), setting("c")), (setting("c"), ("take", "b")), (setting("a"), setting("t"), setting("c"))):
            self.assert_wrong_steps(("atomic", inner))
            self.assert_wrong_steps(("repeat", "i", (1,), (("atomic", inner),)))
        self.assert_wrong_steps(("atomic",))
        self.assert_wrong_steps(("atomic", (one,), 0))

    def test_wrong_repeats(self):
        one = (setting("a"),)
        for numbers in ((), (1,) * 5, [1], 1, None, "1", (1, True), (None,), ((1,),)) + tuple(
                (number,) for number in NO_SHORT_INTEGERS):
            self.assert_wrong_steps(("repeat", "i", numbers, one))
        for steps in ((), one * 5, list(one), one[0], None, 0, (None,), (("repeat", "j", (1,), one),),
                      (("repeat", "i", (1,), one),), one + (("take", "x"),)):
            self.assert_wrong_steps(("repeat", "i", (1,), steps))
        self.assert_wrong_steps(("repeat", "i", (1,)))
        self.assert_wrong_steps(("repeat", "i", (1,), one, 0))
        self.assert_wrong_steps(("repeat", (1,), one))

    def test_wrong_sends(self):
        for values in ((plain(0),) * 4, [plain(0)], None, 0, "a", plain(0), (None,), (plain(0), plain(True))):
            self.assert_wrong_steps(("send", "box", values))
            self.assert_wrong_steps(("repeat", "i", (1,), (("send", "box", values),)))
        self.assertEqual(len(job_of(("send", "box", (plain(0),) * 3))), 1)
        self.assert_wrong_steps(("send", "box"))
        self.assert_wrong_steps(("send", "box", (), ()))
        self.assert_wrong_steps(("send", ()))


class TestSize(Told):
    def test_ten_places(self):
        self.assertEqual(job_of(*[setting("a")] * 9).places, 9)
        self.assert_wrong_steps(*[setting("a")] * 10)
        rounds = ("repeat", "i", (1,), (setting("a"),) * 4)
        self.assertEqual(job_of(rounds, *[setting("a")] * 4).places, 9)
        self.assert_wrong_steps(rounds, *[setting("a")] * 5)
        self.assert_wrong_steps(rounds, rounds)

    def test_places_within_atomic_do_not_count(self):
        self.assertEqual(job_of(*[("atomic", (setting("a"),) * 4)] * 9).places, 9)

    def test_seventeen_executions(self):
        rounds = ("repeat", "i", (1, 2, 3, 4), (setting("a"),) * 4)
        self.assertEqual(len(job_of(rounds)), 16)
        self.assert_too_large(rounds, setting("a"))
        rounds = ("repeat", "i", (1, 2, 3, 4), (setting("a"),) * 2)
        self.assert_too_large(rounds, ("repeat", "i", (1, 2, 3), (setting("a"),) * 3))

    def test_three_that_take(self):
        self.assert_too_large(("take", "a"), ("take", "t"), ("take", "c"))
        self.assert_too_large(("repeat", "i", (1, 2, 3), (("take", "a"),)))
        self.assert_too_large(("repeat", "i", (1, 2), (("atomic", (setting("a"), ("take", "a"))),)), ("take", "t"))

    def test_four_that_send(self):
        sent = ("send", "box", ())
        self.assert_too_large(sent, sent, sent, sent)
        self.assert_too_large(("repeat", "i", (1, 2), (sent, sent)))
        self.assert_too_large(("repeat", "i", (1, 2, 3), (sent,)), sent)

    def test_ten_places_come_ahead_of_the_size(self):
        self.assert_wrong_steps(*[("take", "a")] * 10)
        self.assert_wrong_steps(("repeat", "i", (1, 2, 3, 4), (setting("a"),) * 4), *[setting("a")] * 5)


if __name__ == "__main__":
    unittest.main()
