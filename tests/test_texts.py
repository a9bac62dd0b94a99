"""Points 2 and 8: the texts of jobs."""

import unittest
from random import Random

from reference import Told, job_by_chance
from retrysafe.errors import ParseError
from retrysafe.jobs import Job
from retrysafe.texts import format_job, parse_job

BANK = "store bank: a b\ngiven n\njob\n  set a = a - n\n  set b = b + n\nend"
ALL_KINDS = """store bank: a b
store log: c
given n m
local t u
job
  take t
  set a = -a + 2 * n - 3
  atomic
    set c = c + 1
    take u
  end
  repeat i in 1 -2
    set b = 5 * i - t
    atomic
      set a = -7
    end
    send box
  end
  send box a, -b, 3 * m + 1
end"""
LONG = 10 ** 100 - 1


def with_sum(told):
    """The job with one step, which sets `a` to this sum."""
    return Job((("s", ("a", "b", "c")),), (), (), (("set", "a", told),))


def greatest():
    """A job with 9 places, 16 executions, two that take, three that send, long numbers and long names."""
    names = ("abcdefgh", "bbbbbbbb", "cccccccc", "dddddddd", "zzzzzzzz")
    terms = tuple((-LONG if at % 2 else LONG, name) for at, name in enumerate(names))
    stores = (("storeone", names[:2]), ("storetwo", names[2:4]), ("storethr", names[4:]))
    inner = tuple(("set", "abcdefgh", ("sum", -LONG, terms)) for _ in range(3))
    steps = (
        ("repeat", "itemitem", (LONG, -LONG, 10 ** 99, -1), (("set", "bbbbbbbb", ("sum", LONG, terms)),
                                                            ("atomic", inner + (("set", "bbbbbbbb", ("sum", 0, ())),)))),
        ("repeat", "itemitem", (LONG, -LONG), (("take", "tempoone"),)),
        ("repeat", "itemthre", (LONG, LONG, LONG), (("send", "boxboxbo", (("sum", 0, terms),) * 3),)),
        ("set", "tempotwo", ("sum", LONG, ((1, "argumone"),))),
        ("set", "tempothr", ("sum", LONG, ((-1, "argumtwo"),))),
    )
    return Job(stores, ("argumone", "argumtwo", "argumthr"), ("tempoone", "tempotwo", "tempothr"), steps)


class TestFormat(Told):
    def test_the_example_of_the_document(self):
        job = parse_job(BANK)
        self.assertEqual(job.stores, (("bank", ("a", "b")),))
        self.assertEqual(job.steps[0], ("set", "a", ("sum", 0, ((1, "a"), (-1, "n")))))
        self.assertEqual(job.executions, ((0, None), (1, None)))
        self.assertEqual(format_job(job), BANK)

    def test_all_kinds_of_statements(self):
        total = ("sum", -3, ((-1, "a"), (2, "n")))
        steps = (
            ("take", "t"),
            ("set", "a", total),
            ("atomic", (("set", "c", ("sum", 1, ((1, "c"),))), ("take", "u"))),
            ("repeat", "i", (1, -2), (("set", "b", ("sum", 0, ((5, "i"), (-1, "t")))),
                                         ("atomic", (("set", "a", ("sum", -7, ())),)), ("send", "box", ()))),
            ("send", "box", (("sum", 0, ((1, "a"),)), ("sum", 0, ((-1, "b"),)), ("sum", 1, ((3, "m"),)))),
        )
        job = Job((("bank", ("a", "b")), ("log", ("c",))), ("n", "m"), ("t", "u"), steps)
        self.assertEqual(format_job(job), ALL_KINDS)
        self.assertEqual(parse_job(ALL_KINDS), job)

    def test_a_job_without_steps(self):
        job = Job((("s", ("x",)),), (), (), ())
        self.assertEqual(format_job(job), "store s: x\njob\nend")
        self.assertEqual(parse_job("store s: x\njob\nend"), job)

    def test_sums(self):
        told = {
            "0": ("sum", 0, ()), "5": ("sum", 5, ()), "-5": ("sum", -5, ()),
            "a": ("sum", 0, ((1, "a"),)), "-a": ("sum", 0, ((-1, "a"),)),
            "2 * a": ("sum", 0, ((2, "a"),)), "-2 * a": ("sum", 0, ((-2, "a"),)),
            "a + 1": ("sum", 1, ((1, "a"),)), "-a - 1": ("sum", -1, ((-1, "a"),)),
            "a + b - c": ("sum", 0, ((1, "a"), (1, "b"), (-1, "c"))),
            "-3 * a - b + 4 * c - 12": ("sum", -12, ((-3, "a"), (-1, "b"), (4, "c"))),
        }
        for text, value in told.items():
            whole = f"store s: a b c\njob\n  set a = {text}\nend"
            self.assertEqual(format_job(with_sum(value)), whole)
            self.assertEqual(parse_job(whole), with_sum(value))

    def test_the_greatest_job(self):
        job = greatest()
        self.assertEqual((job.places, len(job)), (9, 15))
        text = format_job(job)
        self.assertEqual(parse_job(text), job)
        self.assertIn(f"  repeat itemitem in {LONG} {-LONG} {10 ** 99} -1\n", text)

    def test_sixteen_executions(self):
        inner = (("set", "x", ("sum", 0, ())),) * 3
        steps = (("repeat", "i", (1, 2), (("take", "x"),)), ("repeat", "i", (1, 2, -3, 4), inner),
                 ("set", "x", ("sum", 1, ())), ("set", "x", ("sum", 2, ())))
        job = Job((("s", ("x",)),), (), (), steps)
        self.assertEqual((len(job), job.places), (16, 8))
        self.assertEqual(parse_job(format_job(job)), job)

    def test_jobs_by_chance_are_read_back(self):
        random = Random(8)
        for _ in range(300):
            job = job_by_chance(random, 9, 16, numbers=(1, -1, 2, -10, 10 ** 40, -LONG))
            text = format_job(job)
            again = parse_job(text=text)
            self.assertEqual(again, job)
            self.assertEqual(format_job(job=again), text)
            self.assertFalse(text.endswith("\n"))


class TestParse(Told):
    def assert_refused(self, text):
        with self.assertRaises(ParseError) as caught:
            parse_job(text)
        line = caught.exception.line
        self.assertIs(type(line), int)
        self.assertTrue(0 <= line <= len(text.split("\n")), line)

    def test_what_is_no_string(self):
        for value in (None, 0, True, b"store s: x\njob\nend", ["store s: x"], ("job",), {}, 1.5, parse_job(BANK), Job):
            self.assert_raised(ParseError, {"line": None}, parse_job, value)

    def test_whatever_is_read_has_exactly_this_text(self):
        read = refused = 0
        for text in (BANK, ALL_KINDS, "store s: x\njob\n  set x = 10\nend"):
            for wrong in sorted(set(changed(text))):
                try:
                    job = parse_job(wrong)
                except ParseError as error:
                    self.assertTrue(0 <= error.line <= len(wrong.split("\n")))
                    refused += 1
                else:
                    self.assertEqual(format_job(job), wrong)
                    self.assertNotEqual(job, parse_job(text))
                    read += 1
        self.assertGreater(read, 100)
        self.assertGreater(refused, 1000)

    def test_lines_that_are_written_otherwise(self):
        for old, new in (("store bank: a b", "store bank: a  b"), ("store bank: a b", "store bank : a b"),
                         ("store bank: a b", "store bank a b"), ("store bank: a b", "store bank:"),
                         ("store bank: a b", "store"), ("store bank: a b", " store bank: a b"),
                         ("store bank: a b", "store bank: a a"), ("store bank: a b", "store job: a b"),
                         ("given n", "given"), ("given n", "given "), ("given n", "local"), ("given n", "given n "),
                         ("given n", "given n\nlocal"), ("given n", "local t\ngiven n"), ("given n", "given n\ngiven m"),
                         ("given n", ""), ("given n", "\ngiven n"), ("\njob", "\nJob"), ("\njob", "\njob "),
                         ("\njob", ""), ("\njob", "\njob\njob"), ("  set a", " set a"), ("  set a", "set a"),
                         ("  set a", "    set a"), ("  set a", "\tset a"), ("  set a =", "  set a ="[:-2]),
                         ("a - n", "a - 0"), ("a - n", "a - 1 * n"), ("a - n", "n - a"), ("a - n", "-n + a"),
                         ("a - n", "a  - n"), ("a - n", "a -n"), ("a - n", "a + -n"), ("a - n", "+a - n"),
                         ("a - n", "- a - n"), ("a - n", "a - n + 0"), ("a - n", "a - a"), ("a - n", "a - 02"),
                         ("a - n", "a - 2 *n"), ("a - n", "a - 2 * "), ("a - n", "a - 2 *"), ("a - n", "a -"),
                         ("a - n", ""), ("a - n", "-0"), ("a - n", "00"), ("a - n", "--1"), ("a - n", "2 * 3"),
                         ("a - n", "a - n,"), ("a - n", "a - i"), ("a - n", "1 + a"), ("a - n", "a + 1 + 2"),
                         ("a - n", "\u0663"), ("a - n", "\u00b2"), ("a - n", "1_0"), ("a - n", "2 * -n"),
                         ("  set b", "  take"), ("  set b", "  put b"), ("\nend", "\nend\n"), ("\nend", "\nend\nend"),
                         ("\nend", ""), ("\nend", "\n  end"), ("\nend", "\nend "), ("\n", "\r\n"), ("\n", "\n\n"),
                         ("\n", "\x0b"), ("\n", "\u2028")):
            self.assert_refused(BANK.replace(old, new))

    def test_statements_that_are_written_otherwise(self):
        for step in ("atomic\n  end", "atomic\n    set x = 1", "atomic\n    set x = 1\nend", "atomic x\n    set x = 1\n  end",
                     "atomic\n  set x = 1\n  end", "atomic\n    send x\n  end", "atomic\n    atomic\n      set x = 1\n    end\n  end",
                     "repeat i in\n    set x = 1\n  end", "repeat i in 1\n  end", "repeat i of 1\n    set x = 1\n  end",
                     "repeat i in 1 \n    set x = 1\n  end", "repeat i in 1  2\n    set x = 1\n  end", "repeat in 1\n    set x = 1\n  end",
                     "repeat x in 1\n    set x = 1\n  end", "repeat i in 01\n    set x = 1\n  end", "repeat i in +1\n    set x = 1\n  end",
                     "repeat i in a\n    set x = 1\n  end", "repeat\n    set x = 1\n  end", "repeat i in 1 2 3 4 5\n    set x = 1\n  end",
                     "repeat i in 1\n    repeat j in 1\n      set x = 1\n    end\n  end", "repeat i in 1\n    set x = 1\n  end\n  end",
                     "take", "take x y", "take y", "take  x", "send", "send box ", "send box x,x", "send box x,  x", "send box x ,x",
                     "send box x, ", "send box ,", "send box 1, 2, 3, 4", "send x, x", "set x 1", "set x == 1", "set = 1", "set y = 1",
                     "end", "job", "set x = i"):
            self.assert_refused(f"store s: x\njob\n  {step}\nend")

    def test_texts_that_are_no_jobs_at_all(self):
        for text in ("", "\n", " ", "job", "end", "job\nend", "store s: x", "store s: x\njob", "store s: x\nend", "\n\n\n", "x" * 10000,
                     "store s: x\njob\nend\n", "store s: x\nstore s: y\njob\nend", "store s: x\nstore r: x\njob\nend"):
            self.assert_refused(text)

    def test_too_many(self):
        self.assert_refused("store s: x\njob\n" + "  set x = 1\n" * 10 + "end")
        self.assert_refused("store s: x\njob\n" + "  take x\n" * 3 + "end")
        self.assert_refused("store s: a b c d e f\njob\nend")
        self.assert_refused("store s: x\njob\n" + "  set x = 1\n" * 100000 + "end")

    def test_deep_nesting(self):
        for word in ("repeat i in 1", "atomic", "job"):
            deep = [level * "  " + word for level in range(1, 3000)]
            self.assert_refused("\n".join(["store s: x", "job"] + deep))
            self.assert_refused("\n".join(["store s: x", "job"] + deep + [line.replace(word, "end") for line in deep[::-1]] + ["end"]))
            self.assert_refused("store s: x\njob\n" + f"  {word}\n" * 5000 + "  end\n" * 5000 + "end")

    def test_numbers_of_many_digits(self):
        for digits in (101, 4300, 5000, 100000):
            for number in ("9" * digits, "-" + "9" * digits, "0" * digits, "1" + "0" * (digits - 1)):
                self.assert_refused(f"store s: x\njob\n  set x = {number}\nend")
                self.assert_refused(f"store s: x\njob\n  set x = {number} * x\nend")
                self.assert_refused(f"store s: x\njob\n  repeat i in {number}\n    set x = 1\n  end\nend")
        self.assertEqual(parse_job(f"store s: x\njob\n  set x = {LONG}\nend").steps[0][2], ("sum", LONG, ()))

    def test_long_lines(self):
        self.assert_refused("store s: x\njob\n  set x = " + "x + " * 100000 + "x\nend")
        self.assert_refused("store s:" + " x" * 100000 + "\njob\nend")


def changed(text):
    """Texts that differ from a text in one character or in one line."""
    for at in range(len(text) + 1):
        for letter in " \nax1*-+=:,A":
            yield text[:at] + letter + text[at:]
            if at < len(text) and letter != text[at]:
                yield text[:at] + letter + text[at + 1:]
        if at < len(text):
            yield text[:at] + text[at + 1:]
    lines = text.split("\n")
    for at, line in enumerate(lines):
        yield "\n".join(lines[:at] + lines[at + 1:])
        yield "\n".join(lines[:at] + ["  end"] + lines[at:])
        if at + 1 < len(lines) and lines[at + 1] != line:
            yield "\n".join(lines[:at] + [lines[at + 1], line] + lines[at + 2:])
        doubled = lines[:at] + [line] + lines[at:]
        yield "\n".join(doubled)


if __name__ == "__main__":
    unittest.main()
