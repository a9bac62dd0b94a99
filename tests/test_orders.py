"""Points 2, 3 (i), 37, 38 and 39: exchanged and joined statements."""

import unittest
from itertools import permutations
from random import Random

from reference import NO_INTEGERS, Told, all_choices, is_right, job_by_chance
from retrysafe.errors import InvalidIndex, TooLarge
from retrysafe.fewest import fewest
from retrysafe.jobs import Job
from retrysafe.marks import Marks
from retrysafe.meanings import meaning
from retrysafe.orders import cheapest_form, exchangeable, exchanged, joinable, joined, orders
from retrysafe.runs import outcome
from retrysafe.studies import Study
from retrysafe.texts import format_job, parse_job

EMPTY = Job((("s", ("x",)),), (), (), ())
SENDING = parse_job("store s: x\njob\n  send box x\nend")
THREE = parse_job("store s: x y\nstore q: z\njob\n  set x = x + 1\n  set z = z + 1\n  set y = y + 1\nend")
ACTIONS = (exchangeable, joinable, orders, cheapest_form)


def job_of(*lines, head="store s: x y z v w\ngiven n\nlocal t u\n"):
    return parse_job(head + "job\n  " + "\n  ".join(lines) + "\nend")


def parts_of(statement):
    """All `set` and `take` statements within a statement."""
    if statement[0] == "repeat":
        return [part for step in statement[3] for part in parts_of(step)]
    return list(statement[1]) if statement[0] == "atomic" else [statement]


def slow_exchange(job):
    """Point 37, once more."""
    found = []
    for at, (one, other) in enumerate(zip(job.steps, job.steps[1:])):
        writes = [{part[1] for part in parts_of(step)} for step in (one, other)]
        reads = [{name for part in parts_of(step) if part[0] == "set" for _, name in part[2][2]} for step in (one, other)]
        takes = [any(part[0] == "take" for part in parts_of(step)) for step in (one, other)]
        if not (writes[0] & (reads[1] | writes[1]) or writes[1] & reads[0] or all(takes)):
            found.append(at)
    return tuple(found)


def slow_join(job):
    """Point 38, once more."""
    homes = {name: store for store, names in job.stores for name in names}
    found = []
    for at, (one, other) in enumerate(zip(job.steps, job.steps[1:])):
        inner = parts_of(one) + parts_of(other)
        if ("repeat" not in (one[0], other[0]) and len(inner) <= 4 and [part[0] for part in inner].count("take") <= 1
                and len({homes[part[1]] for part in inner if part[1] in homes}) <= 1):
            found.append(at)
    return tuple(found)


def slow_forms(job, joining):
    """All jobs that come from a job, each once, by their texts."""
    found, fresh = {format_job(job): job}, [job]
    while fresh:
        form = fresh.pop()
        behind = [exchanged(form, at) for at in slow_exchange(form)]
        if joining:
            behind += [joined(form, at) for at in slow_join(form)]
        for other in behind:
            if format_job(other) not in found:
                found[format_job(other)] = other
                fresh.append(other)
    return found


class TestExchange(Told):
    def test_the_example_of_the_document(self):
        self.assertEqual((exchangeable(THREE), joinable(THREE), len(orders(THREE))), ((0, 1), (), 6))
        cost, form, marks = cheapest_form(THREE)
        self.assertEqual((cost, len(form.steps), marks), (2, 2, Marks(form, (0, 1))))

    def test_what_two_statements_share(self):
        for one, other, told in (
                ("set x = 1", "set y = 2", True), ("set x = y", "set z = y", True), ("set x = 1", "set x = 1", False),
                ("set x = y", "set y = 1", False), ("set y = 1", "set x = y", False), ("set t = 1", "set t = 2", False),
                ("set t = 1", "set x = t", False), ("set x = t", "set t = 1", False), ("set x = t", "set y = t", True),
                ("set x = n", "set y = n", True), ("take x", "set y = 1", True), ("take x", "take y", False),
                ("take x", "set y = x", False), ("take x", "set x = y", False), ("set y = x", "take x", False),
                ("atomic\n    set t = 1\n    set x = t\n  end", "set y = t", False),
                ("atomic\n    set x = 1\n    take t\n  end", "take y", False),
                ("atomic\n    set x = z\n    set y = 2\n  end", "atomic\n    set v = z\n    set w = 1\n  end", True),
                ("atomic\n    set x = z\n    set y = 2\n  end", "atomic\n    set v = z\n    set z = 1\n  end", False),
                ("repeat i in 1 2\n    set x = i + x\n  end", "repeat i in 3\n    set y = i + y\n  end", True),
                ("repeat i in 1 2\n    set x = i + x\n  end", "atomic\n    set y = y + 1\n    set z = x\n  end", False),
                ("repeat i in 1 2\n    set x = i + x\n    set u = 1\n  end", "set u = n", False),
                ("repeat i in 1 2\n    set x = i + x\n  end", "repeat j in 3\n    atomic\n      set v = x\n    end\n  end", False),
                ("repeat i in 1 2\n    take x\n  end", "set y = 1", True), ("repeat i in 1\n    take x\n  end", "take y", False),
                ("repeat i in 1\n    set v = 1\n    set x = v\n  end", "atomic\n    set y = n\n    set t = 1\n  end", True)):
            job = job_of(one, other)
            self.assertEqual(exchangeable(job), (0,) if told else (), (one, other))
            if told:
                self.assertEqual(exchanged(job, 0), job_of(other, one))
                self.assertEqual(exchanged(exchanged(job, 0), 0), job)

    def test_by_chance(self):
        random = Random(37)
        many = 0
        for _ in range(400):
            job = job_by_chance(random, 7, 10)
            self.assertEqual(exchangeable(job), slow_exchange(job))
            for at in exchangeable(job):
                other = exchanged(job=job, index=at)
                many += 1
                steps = list(job.steps)
                steps[at:at + 2] = steps[at + 1], steps[at]
                self.assertEqual(other, Job(job.stores, job.arguments, job.temps, tuple(steps)))
                self.assertEqual(meaning(other), meaning(job))
                self.assertIn(at, exchangeable(other))
        self.assertGreater(many, 100)

    def test_only_the_top(self):
        job = job_of("repeat i in 1 2\n    set x = 1\n    set y = 1\n  end")
        self.assertEqual((exchangeable(job), joinable(job), orders(job)), ((), (), [job]))
        self.assertEqual((exchangeable(EMPTY), joinable(EMPTY), orders(EMPTY)), ((), (), [EMPTY]))
        self.assertEqual(cheapest_form(EMPTY), (0, EMPTY, Marks(EMPTY)))


class TestJoin(Told):
    def test_what_may_be_joined(self):
        stores = "store s: x y\nstore q: z\nlocal t u\n"
        four = "atomic\n    set x = 1\n    set y = x\n    set t = 1\n    set u = 1\n  end"
        three = "atomic\n    set x = 1\n    take t\n    set y = t\n  end"
        for one, other, told in (
                ("set x = 1", "set y = x", True), ("set x = 1", "set z = 1", False), ("set t = 1", "set z = t", True),
                ("set t = z", "set u = x", True), ("take x", "set y = 1", True), ("take x", "take y", False),
                ("take t", three, False), (three, "set x = y", True), (three, "set z = y", False), (four, "set t = 2", False),
                ("set t = 2", four, False), (three, "set u = z", True), ("set x = 1", "set x = 2", True),
                ("atomic\n    set x = 1\n    set y = 1\n  end", "atomic\n    set x = y\n    set y = 2\n  end", True),
                ("atomic\n    set x = 1\n    set t = 1\n  end", "atomic\n    set u = y\n    set z = 2\n  end", False),
                ("repeat i in 1\n    set x = 1\n  end", "set x = 2", False), ("set x = 2", "repeat i in 1\n    set x = 1\n  end", False)):
            job = job_of(one, other, head=stores)
            self.assertEqual(joinable(job), (0,) if told else (), (one, other))
            if told:
                inner = tuple(part for step in job.steps for part in parts_of(step))
                self.assertEqual(joined(job, 0), Job(job.stores, (), job.temps, (("atomic", inner),)))
                self.assertEqual(meaning(joined(job, 0)), meaning(job))

    def test_by_chance(self):
        random = Random(38)
        many = 0
        for _ in range(400):
            job = job_by_chance(random, 7, 10)
            self.assertEqual(joinable(job), slow_join(job))
            for at in joinable(job):
                other = joined(job=job, index=at)
                many += 1
                self.assertEqual((len(other), other.places), (len(job) - 1, job.places - 1))
                self.assertEqual(other.steps[:at] + other.steps[at + 1:], job.steps[:at] + job.steps[at + 2:])
                self.assertEqual(meaning(other), meaning(job))
        self.assertGreater(many, 100)


class TestOrders(Told):
    def test_by_chance(self):
        random = Random(39)
        sizes = {}
        for _ in range(120):
            job = job_by_chance(random, 7, 10)
            if len(job.steps) <= 6:
                found, told = orders(job), slow_forms(job, False)
                self.assertEqual([format_job(form) for form in found], sorted(told))
                self.assertEqual(found, [told[text] for text in sorted(told)])
                sizes[len(found)] = True
        self.assertGreater(len(sizes), 4)

    def test_six_statements(self):
        lines = ["set x = 1", "set y = 1", "set z = 1", "set v = 1", "set w = 1", "set t = 1"]
        found = orders(job_of(*lines))
        self.assertEqual((len(found), {form.places for form in found}), (720, {6}))
        self.assertEqual([format_job(form) for form in found],
                         sorted(format_job(job_of(*chosen)) for chosen in permutations(lines)))
        self.assertIsNot(orders(job_of(*lines[:2])), orders(job_of(*lines[:2])))

    def test_too_large(self):
        seven = job_of(*["set x = 1"] * 7)
        self.assert_raised(TooLarge, {"limit": 6}, orders, seven)
        self.assertEqual(len(orders(job_of(*["set x = 1"] * 6))), 1)
        self.assert_raised(TooLarge, {"limit": 4}, cheapest_form, job_of(*["set x = 1"] * 5))
        within = "repeat i in 1 2\n    set x = 1\n    set y = 1\n    set z = 1\n    set v = 1\n  end"
        self.assertEqual(len(orders(job_of(within, *["set t = 1"] * 3))), 4)
        self.assertEqual((exchangeable(seven), joinable(seven)), ((), (0, 1, 2, 3, 4, 5)))


class TestCheapest(Told):
    def assert_cheapest(self, job):
        """Of all forms, looked at one by one."""
        ranks = []
        for text, form in slow_forms(job, True).items():
            cost, marks, _ = fewest(form)
            ranks.append((cost, -len(form.steps), text, marks.places))
        cost, _, text, places = min(ranks)
        found = cheapest_form(job)
        self.assertEqual((found[0], format_job(found[1]), found[2]), (cost, text, Marks(found[1], places)))
        return len({rank[0] for rank in ranks}), [rank[0] for rank in ranks].count(cost)

    def test_by_chance(self):
        random = Random(40)
        several = ties = 0
        for _ in range(150):
            job = job_by_chance(random, 6, 8)
            if len(job.steps) <= 4:
                prices, equal = self.assert_cheapest(job)
                several += prices > 1
                ties += equal > 1
        self.assertTrue(several > 5 and ties > 5, (several, ties))

    def test_four_statements(self):
        self.assertEqual(self.assert_cheapest(job_of("set x = x + 1", "set y = y + 1", "set z = z + 1", "set v = v + 1")), (4, 24))
        self.assert_cheapest(job_of("take t", "set x = t + x", "set y = t", "set z = t"))
        self.assert_cheapest(job_of("set t = x", "set y = y + 1", "set x = t + 1", "set z = x",
                                    head="store s: x z\nstore q: y\nlocal t\n"))
        self.assert_cheapest(job_of("repeat i in 1 2\n    set x = i + x\n    set t = x\n  end", "set y = y + 1", "set z = y", "set v = n"))

    def test_forms_of_the_same_cost(self):
        # Of equally cheap jobs the one with most statements comes first, and of these the first by its text.
        job = job_of("set y = 2", "set x = 1", head="store s: x y\n")
        self.assertEqual(cheapest_form(job), (0, exchanged(job, 0), Marks(exchanged(job, 0))))
        both = job_of("set y = y + 1", "set x = x + 1", head="store s: x y\n")
        form = job_of("atomic\n    set x = x + 1\n    set y = y + 1\n  end", head="store s: x y\n")
        self.assertEqual(cheapest_form(both), (1, form, Marks(form, (0,))))

    def test_the_cheapest_is_safe(self):
        cost, form, marks = cheapest_form(job_of("take t", "set x = t + x", "set y = t + y"))
        self.assertEqual((cost, len(marks)), (1, 1))
        self.assertTrue(Study(form, marks).is_safe)
        for plan in ((1,), (2,), (1, 2), (2, 2)):
            run = ((1, 2, 3, 4, 5), (6,), tuple(position for position in plan if position <= len(form)), tuple(range(9)))
            self.assertTrue(any(is_right(form, marks.places, run, choice) for choice in all_choices(form)))
            self.assertEqual(len(outcome(form, marks, *run)), 2)


class TestErrors(Told):
    def test_no_jobs(self):
        for value in (None, 0, "job", EMPTY.steps, SENDING, Job, Marks(EMPTY)):
            for action in ACTIONS:
                self.assert_no_job(action, value)
            for action in (exchanged, joined):
                self.assert_no_job(action, value, None)
                self.assert_no_job(action, value, 0)

    def test_a_job_that_sends_is_refused_ahead_of_its_size(self):
        sending = parse_job("store s: x\njob\n" + "  set x = 1\n" * 7 + "  send box x\nend")
        self.assert_no_job(orders, sending)
        self.assert_no_job(cheapest_form, sending)

    def test_wrong_indices(self):
        job = job_of("set x = 1", "set y = 1", "set x = 2", "set x = 3")
        for value in NO_INTEGERS + ("x", -1, 2, 3, 10 ** 30, job):
            self.assert_value(InvalidIndex, value, exchanged, job, value)
        self.assertEqual((exchangeable(job), joinable(job)), ((0, 1), (0, 1, 2)))
        for value in NO_INTEGERS + ("x", -1, 3, 4, 10 ** 30, job):
            self.assert_value(InvalidIndex, value, joined, job, value)
        self.assert_value(InvalidIndex, 0, exchanged, EMPTY, 0)
        self.assert_value(InvalidIndex, 0, joined, EMPTY, 0)


if __name__ == "__main__":
    unittest.main()
