"""Points 2, 3 (a), 40, 41, 42 and 43: jobs that are changed while runs of them are under way."""

import unittest
from random import Random

from reference import (
    NO_TUPLES, SlowRun, Told, job_by_chance, marked_by_chance, numbers_by_chance, plan_by_chance, takers)
from retrysafe.changes import Change, repaired
from retrysafe.errors import (
    InvalidCosts, InvalidFar, InvalidJob, InvalidMarks, InvalidPlaces, InvalidRun, InvalidWord)
from retrysafe.jobs import Job
from retrysafe.marks import Marks, cost
from retrysafe.meanings import plain_run
from retrysafe.runs import outcome
from retrysafe.sieves import priced_choices
from retrysafe.studies import Study
from retrysafe.texts import format_job, parse_job

OLD = parse_job("store p: x\nstore q: y\njob\n  set x = x + 1\n  set y = y + 1\nend")
NEW = parse_job("store p: x\nstore q: y\njob\n  set x = x + 1\n  set y = y + 2\nend")
EMPTY = parse_job("store p: x\nstore q: y\njob\nend")
TAKING = parse_job("store p: x\nstore q: y\njob\n  take x\nend")
SENDING = parse_job("store p: x\nstore q: y\njob\n  send box x\nend")


class Changed(SlowRun):
    """The run of a new job behind an old one, as point 41 tells it."""

    def __init__(self, old, new, marked, places):
        super().__init__(new, marked, list(old.first.values()), list(old.given.values()), ())
        self.durable = dict(old.durable)
        self.over = set()
        for e, (place, around, end, inner, _, _) in enumerate(self.steps):
            written = {statement[1] for statement in inner}
            names = [name for name in self.temps if name in written]
            self.kept[e] = dict.fromkeys(names, 0)
            if place in self.marked and places[place] in old.marked:
                number = [step[0] for step in self.steps[:e]].count(place)
                theirs = [at for at, step in enumerate(old.steps) if step[0] == places[place]][number]
                if theirs < old.far:
                    self.over.add(e)
                    self.kept[e].update((name, value) for name, value in old.kept[theirs].items() if name in names)
            if around in self.marked and places[around] in old.marked:
                rounds = sorted({step[2] for step in self.steps if step[1] == around})
                ends = sorted({step[2] for step in old.steps if step[1] == places[around]})
                if ends[rounds.index(end)] <= old.far:
                    self.over.add(e)

    def is_passed(self, e):
        return e in self.over or super().is_passed(e)


def slow_outcome(told, run):
    """The end of a changed run."""
    old, old_marked, new, new_marked, places = told
    values, arguments, plan, later = run
    before = SlowRun(old, old_marked, values, arguments, ())
    for position in plan:
        while before.here < position:
            before.step()
        before.fail()
    behind = Changed(before, new, new_marked, places)
    behind.follow(later)
    return tuple(behind.durable.values())


def places_of_job(job):
    """For each place: its kind, and how many rounds or executions it has."""
    found = []
    for place in range(job.places):
        statement = job.statement(place)
        many = [other for other, _ in job.executions].count(place)
        found.append(("repeat", len(statement[2])) if statement[0] == "repeat" else ("step", many))
    return found


def places_by_chance(random, old, new):
    """Places of an old job from which those of a new one may take over."""
    free = list(range(old.places))
    kinds, found = places_of_job(old), []
    for kind in places_of_job(new):
        fitting = [place for place in free if kinds[place] == kind]
        chosen = random.choice(fitting) if fitting and random.random() < 0.75 else None
        found.append(chosen)
        if chosen is not None:
            free.remove(chosen)
    return tuple(found)


def job_to_change(random, places=6, executions=6):
    while True:
        job = job_by_chance(random, places, executions)
        if not takers(job):
            return job


def altered(random, job):
    """A job like another one: with statements left out, doubled, turned round or with other numbers."""
    while True:
        steps = list(job.steps)
        for _ in range(random.randint(1, 2)):
            word = random.choice(("drop", "twice", "turn", "change"))
            if steps and word == "drop":
                del steps[random.randrange(len(steps))]
            elif steps and word == "twice":
                steps.insert(random.randrange(len(steps)), random.choice(steps))
            elif word == "turn":
                random.shuffle(steps)
            elif steps:
                at = random.randrange(len(steps))
                if steps[at][0] == "set":
                    steps[at] = ("set", steps[at][1], ("sum", steps[at][2][1] + 1, steps[at][2][2]))
        try:
            found = Job(job.stores, job.arguments, job.temps, tuple(steps))
        except InvalidJob:
            continue
        if len(found) <= 8:
            return found


def pair_by_chance(random):
    """An old job and a new one."""
    while True:
        old = job_to_change(random)
        if random.random() < 0.7:
            return old, altered(random, old)
        new = job_to_change(random)
        if (new.stores, new.arguments) == (old.stores, old.arguments):
            return old, new


def plans_of(random, old, far, many):
    """Some plans of an old job whose greatest position is this far."""
    found = [()] if far == 0 else [(far,)]
    for _ in range(many):
        plan = [random.randint(0, far) for _ in range(random.randint(0, 3))] + [far]
        random.shuffle(plan)
        found.append(tuple(plan))
    return found


class Checked(Told):
    def assert_wrong(self, told, far, word, run):
        """A run that is changed with this far and ends otherwise."""
        values, arguments, plan, later = run
        self.assertEqual(max(plan, default=0), far)
        ended = slow_outcome(told, run)
        self.assertNotEqual(ended, plain_run(told[0] if word == "old" else told[2], values, arguments, ()))
        old, old_marked, new, new_marked, places = told
        self.assertEqual(Change(old, Marks(old, old_marked), new, Marks(new, new_marked), places).outcome(run), ended)


class TestChange(Checked):
    def test_the_example_of_the_document(self):
        change = Change(OLD, Marks(OLD, (0, 1)), NEW, Marks(NEW, (0, 1)), (0, 1))
        later = Change(OLD, Marks(OLD, (0,)), OLD, Marks(OLD, (0, 1)), (0, 1))
        self.assertEqual([change.ends(far) for far in range(3)], [("new",), ("new",), ("old",)])
        self.assertEqual([later.ends(1), later.ends(2), later.outcome(((0, 0), (), (2,), ())), repaired(OLD, Marks(OLD, (0,)))],
                         [("old", "new"), (), (1, 2), None])

    def test_by_chance(self):
        random = Random(40)
        seen = {}
        for _ in range(250):
            old, new = pair_by_chance(random)
            old_marked, new_marked = marked_by_chance(random, old), marked_by_chance(random, new)
            if random.random() < 0.3:
                new_marked = tuple(range(new.places))
            places = places_by_chance(random, old, new)
            told = (old, old_marked, new, new_marked, places)
            change = Change(old, Marks(old, old_marked), new, Marks(new, new_marked), places)
            for far in {0, len(old), random.randint(0, len(old))}:
                words = change.ends(far)
                self.assertEqual(words, tuple(word for word in ("old", "new") if change.find_wrong(far, word) is None))
                seen[words] = seen.get(words, 0) + 1
                for word in ("old", "new"):
                    if word not in words:
                        self.assert_wrong(told, far, word, change.find_wrong(far=far, word=word))
                for plan in plans_of(random, old, far, 12):
                    run = (*numbers_by_chance(random, old, 99), plan, plan_by_chance(random, new, 4))
                    ended = change.outcome(run)
                    self.assertEqual(ended, slow_outcome(told, run))
                    for word in words:
                        self.assertEqual(ended, plain_run(old if word == "old" else new, run[0], run[1], ()))
        self.assertEqual(set(seen), {(), ("old",), ("new",), ("old", "new")})
        self.assertTrue(min(seen.values()) > 10, seen)

    def test_at_once(self):
        change = Change(OLD, Marks(OLD), NEW, Marks(NEW, (0, 1)), (0, 1))
        self.assertEqual((change.ends(0), change.find_wrong(0, "new")), (("new",), None))
        for plan in ((), (0,), (0, 0, 0)):
            self.assertEqual(change.outcome(((5, 6), (), plan, (1, 0, 2))), (6, 8))
        values, arguments, plan, later = change.find_wrong(0, "old")
        self.assertEqual(max(plan, default=0), 0)

    def test_none_takes_over(self):
        for marked in ((), (0, 1)):
            change = Change(OLD, Marks(OLD, marked), NEW, Marks(NEW, (0, 1)), (None, None))
            self.assertEqual([change.ends(far) for far in range(3)], [("new",), (), ()])
            self.assertEqual(change.outcome(((0, 0), (), (1,), ())), (2, 2))

    def test_all_take_over(self):
        # To the same job with the same marks: as if it went on.
        random = Random(41)
        for _ in range(60):
            job = job_to_change(random)
            marks = Marks(job, marked_by_chance(random, job))
            change = Change(job, marks, job, marks, tuple(range(job.places)))
            if Study(job, marks).is_safe:
                self.assertEqual([change.ends(far) for far in range(len(job) + 1)], [("old", "new")] * (len(job) + 1))
            values, arguments = numbers_by_chance(random, job)
            plan, later = plan_by_chance(random, job, 3) + (random.randint(0, len(job)),), plan_by_chance(random, job, 3)
            if set(marks.places) == set(range(job.places)):
                self.assertEqual(change.outcome((values, arguments, plan, later)), outcome(job, marks, values, arguments, plan + later, ())[0])

    def test_both_places_have_to_be_marked(self):
        for old_marked, new_marked, ended in (((), (), (2, 2)), ((0,), (), (2, 2)), ((), (0,), (2, 2)), ((0,), (0,), (1, 2)),
                                              ((0, 1), (1,), (2, 1)), ((0, 1), (0, 1), (1, 1))):
            change = Change(OLD, Marks(OLD, old_marked), OLD, Marks(OLD, new_marked), (0, 1))
            self.assertEqual(change.outcome(((0, 0), (), (2,), ())), ended)

    def test_another_order(self):
        turned = parse_job("store p: x\nstore q: y\njob\n  set y = y + 1\n  set x = x + 1\nend")
        change = Change(OLD, Marks(OLD, (0, 1)), turned, Marks(turned, (0, 1)), (1, 0))
        self.assertEqual([change.ends(far) for far in range(3)], [("old", "new")] * 3)
        self.assertEqual(change.outcome(((0, 0), (), (1,), (0, 1, 2))), (1, 1))
        missed = Change(OLD, Marks(OLD, (0, 1)), turned, Marks(turned, (0, 1)), (0, 1))
        self.assertEqual(missed.outcome(((0, 0), (), (1,), ())), (2, 0))


class TestRepeats(Checked):
    OLD = parse_job("store s: x y\njob\n  repeat i in 1 2\n    set x = i + x\n    set y = i + y\n  end\nend")

    def change(self, old_marked, new_marked, places, new=None):
        new = self.OLD if new is None else new
        return Change(self.OLD, Marks(self.OLD, old_marked), new, Marks(new, new_marked), places)

    def test_ended_rounds(self):
        change = self.change((0, 1, 2), (0,), (0, None, None))
        # A round that has not ended is performed once more, as no step within it takes over.
        self.assertEqual([change.outcome(((0, 0), (), (far,) if far else (), ())) for far in range(5)],
                         [(3, 3), (4, 3), (3, 3), (5, 3), (3, 3)])
        self.assertEqual([change.ends(far) for far in range(5)], [(), (), (), (), ("old", "new")])

    def test_steps_within_take_over(self):
        change = self.change((0, 1, 2), (1, 2), (None, 1, 2))
        self.assertEqual([change.ends(far) for far in range(5)], [("old", "new")] * 5)
        crossed = self.change((1, 2), (1, 2), (None, 2, 1))
        self.assertEqual([crossed.outcome(((0, 0), (), (far,), ())) for far in range(1, 5)], [(4, 2), (3, 3), (5, 1), (3, 3)])

    def test_the_last_inner_place_takes_over_and_the_first_does_not(self):
        change = self.change((0, 1, 2), (0, 2), (None, None, 2))
        # Behind far 1 nothing of y was performed, behind far 2 that of the first round.
        self.assertEqual([change.outcome(((0, 0), (), (far,), ())) for far in range(1, 5)], [(4, 3), (4, 3), (6, 3), (6, 3)])
        # The far of the new job is 2 behind the passed place: then its own marked round is passed over.
        self.assertEqual([change.outcome(((0, 0), (), (4,), later)) for later in ((1,), (2,), (1, 2), (2, 3), (4,))],
                         [(7, 3), (6, 3), (7, 3), (8, 3), (6, 3)])
        told = (self.OLD, (0, 1, 2), self.OLD, (0, 2), (None, None, 2))
        for far in range(1, 5):
            self.assert_wrong(told, far, "old", change.find_wrong(far, "old"))

    def test_from_a_repeat_with_as_many_rounds(self):
        new = parse_job("store s: x y\njob\n  set y = 0\n  repeat j in 5 6\n    set x = j + x\n  end\nend")
        change = self.change((0, 1), (1, 2), (None, 0, None), new)
        self.assertEqual([change.outcome(((0, 0), (), (far,) if far else (), ())) for far in range(5)],
                         [(11, 0), (12, 0), (7, 0), (9, 0), (3, 0)])
        within = self.change((0, 1), (1, 2), (None, None, 1), new)
        self.assertEqual([within.outcome(((0, 0), (), (far,) if far else (), ())) for far in range(5)],
                         [(11, 0), (7, 0), (7, 0), (3, 0), (3, 0)])

    def test_a_step_takes_over_from_one_with_as_many_executions(self):
        once = parse_job("store s: x y\njob\n  repeat i in 7\n    set x = i + x\n  end\n  set y = 1\nend")
        flat = parse_job("store s: x y\njob\n  set x = x + 7\n  set y = 1\nend")
        change = Change(once, Marks(once, (1,)), flat, Marks(flat, (0,)), (1, None))
        self.assertEqual([change.ends(far) for far in range(3)], [("old", "new")] * 3)
        back = Change(flat, Marks(flat, (0,)), once, Marks(once, (1,)), (None, 0, 1))
        self.assertEqual([back.ends(far) for far in range(3)], [("old", "new")] * 3)


class TestKept(Checked):
    OLD = parse_job("store s: x\nlocal t u\njob\n  atomic\n    set t = x + 1\n    set u = x + 2\n  end\n  set x = 9\nend")

    def ended(self, new, old_marked, new_marked, places, plan=(2,), later=()):
        return Change(self.OLD, Marks(self.OLD, old_marked), new, Marks(new, new_marked), places).outcome(((3,), (), plan, later))

    def test_kept_locals_come_along(self):
        new = parse_job("store s: x\nlocal u v\njob\n  atomic\n    set u = x\n    set v = x\n  end\n  set x = 100 * u + v\nend")
        # u was kept by the old job, and v was not; t is no local of the new one.
        self.assertEqual(self.ended(new, (0,), (0,), (0, None)), (500,))
        self.assertEqual(self.ended(new, (0,), (0,), (0, None), (2,), (2, 1)), (500,))
        self.assertEqual(self.ended(new, (0,), (0,), (0, None), (1,)), (500,))
        # Nothing was performed: what was kept is then that of the new job.
        self.assertEqual(self.ended(new, (0,), (0,), (0, None), (), (2,)), (303,))
        self.assertEqual(self.ended(new, (0,), (0,), (0, None), (0,)), (303,))
        # It takes over from none, or from one that is not marked.
        self.assertEqual(self.ended(new, (0,), (0,), (None, None)), (909,))
        self.assertEqual(self.ended(new, (1,), (0,), (0, None)), (909,))

    def test_a_local_that_the_new_place_does_not_write(self):
        new = parse_job("store s: x\nlocal t u\njob\n  set t = 0\n  set x = 100 * t + u\nend")
        self.assertEqual(self.ended(new, (0,), (0,), (0, None)), (400,))

    def test_passed_over_by_its_repeat(self):
        old = parse_job("store s: x\nlocal t\njob\n  repeat i in 1 2\n    set t = i + x\n    set x = t\n  end\nend")
        new = parse_job("store s: x\nlocal t\njob\n  repeat i in 1 2\n    set t = 50 * i\n  end\n  set x = t\nend")

        def ended(old_marked, new_marked, places, plan):
            return Change(old, Marks(old, old_marked), new, Marks(new, new_marked), places).outcome(((3,), (), plan, (2,)))

        # Rounds that the repeat takes over give back what was kept if the step within takes over from a marked one.
        self.assertEqual(ended((0, 1), (0, 1), (0, 1, None), (4,)), (6,))
        self.assertEqual(ended((0, 1), (0, 1), (0, 1, None), (2,)), (100,))
        self.assertEqual(ended((0,), (0, 1), (0, 1, None), (4,)), (0,))
        self.assertEqual(ended((0, 1), (0, 1), (0, None, None), (4,)), (0,))
        self.assertEqual(ended((0, 2), (0, 1), (0, 2, None), (4,)), (0,))
        self.assertEqual(ended((0, 1), (0,), (0, 1, None), (4,)), (0,))
        # In the third attempt the last round of the old job had not ended.
        self.assertEqual(ended((0, 1), (0, 1), (0, 1, None), (3,)), (6,))


class TestRepaired(Checked):
    def test_by_chance(self):
        random = Random(43)
        seen = {}
        for _ in range(200):
            job = job_to_change(random, 5)
            marks = Marks(job, marked_by_chance(random, job))
            if random.random() < 0.4:
                marks = Marks(job, tuple(range(job.places)))
            costs = random.choice((None, tuple(random.choice((1, 1, 2, 100)) for _ in range(job.places))))
            told = None
            for total, places in priced_choices(job, costs):
                change = Change(job, marks, job, Marks(job, places), tuple(range(job.places)))
                if all(change.ends(far) == ("old", "new") for far in range(len(job) + 1)):
                    told = (total, Marks(job, places))
                    break
            found = repaired(job=job, marks=marks, costs=costs)
            self.assertEqual(found, told)
            if found is not None:
                self.assertEqual(found[0], cost(found[1], costs))
                self.assertTrue(Study(job, found[1]).is_safe)
            seen[found and found[0]] = True
        self.assertTrue({None, 0, 1, 2} <= set(seen), seen)

    def test_marks_that_are_enough(self):
        self.assertEqual(repaired(OLD, Marks(OLD, (0, 1))), (2, Marks(OLD, (0, 1))))
        self.assertIsNone(repaired(OLD, Marks(OLD)))
        self.assertEqual(repaired(EMPTY, Marks(EMPTY)), (0, Marks(EMPTY)))
        self.assertEqual(repaired(EMPTY, Marks(EMPTY), ()), (0, Marks(EMPTY)))

    def test_what_is_needed_beside_a_repaired_job(self):
        # Safe with either mark, and either may be changed to the other one only at some fars.
        job = parse_job("store s: x\nlocal t\njob\n  set t = x\n  set x = t + 1\nend")
        self.assertEqual([repaired(job, Marks(job, places)) for places in ((0,), (1,), (0, 1))],
                         [(1, Marks(job, (0,))), (1, Marks(job, (1,))), (1, Marks(job, (0,)))])
        self.assertEqual(repaired(job, Marks(job, (0, 1)), (2, 1)), (1, Marks(job, (1,))))
        self.assertIsNone(repaired(job, Marks(job)))

    def test_the_greatest_job(self):
        inner = "    set t = i + t + x\n    atomic\n      set x = t\n      set z = n + z\n    end\n    set y = t + 2 * y\n"
        job = parse_job("store a: x z\nstore b: y\ngiven n\nlocal t u\njob\n  set z = n + z\n  repeat i in 1 2 3 4\n" + inner
                        + "  end\n  set u = x\n  repeat i in 7 8\n    set z = i + u + z\n  end\nend")
        self.assertEqual((job.places, len(job)), (8, 16))
        full = Marks(job, tuple(range(8)))
        total, marks = repaired(job, full)
        self.assertEqual(total, len(marks))
        self.assertTrue(total < 8)
        self.assertIsNone(repaired(job, Marks(job, (0, 3))))
        change = Change(job, full, job, marks, tuple(range(8)))
        self.assertEqual([change.ends(far) for far in (0, 1, 5, 16)], [("old", "new")] * 4)


class TestErrors(Checked):
    def test_jobs(self):
        other = (parse_job("store p: x\nstore r: y\njob\nend"), parse_job("store p: x\nstore q: z\njob\nend"),
                 parse_job("store q: y\nstore p: x\njob\nend"), parse_job("store p: x\nstore q: y\ngiven n\njob\nend"))
        for value in (None, 0, "job", OLD.steps, TAKING, SENDING, Job, Marks(OLD)) + other:
            self.assert_no_job(Change, value, None, OLD, None, None)
            self.assert_no_job(Change, OLD, None, value, None, None)
        for value in (None, 0, "job", OLD.steps, TAKING, SENDING, Job, Marks(OLD)):
            self.assert_no_job(repaired, value, None, 0)
            self.assert_no_job(Change, value, None, value, None, None)
        local = parse_job("store p: x\nstore q: y\nlocal t\njob\nend")
        self.assertEqual(Change(OLD, Marks(OLD), local, Marks(local), ()).ends(0), ("new",))

    def test_marks(self):
        for value in (None, (), (0,), OLD, Marks(EMPTY), Marks(SENDING), Marks):
            self.assert_value(InvalidMarks, value, Change, OLD, value, NEW, None, None)
            self.assert_value(InvalidMarks, value, Change, OLD, Marks(OLD), NEW, value, None)
            self.assert_value(InvalidMarks, value, repaired, OLD, value, 0)
        self.assert_value(InvalidMarks, new := Marks(NEW), Change, OLD, new, NEW, Marks(OLD), None)
        again = parse_job(format_job(OLD))
        Change(OLD, Marks(again), NEW, Marks(NEW), (None, None))

    def test_places(self):
        for value in NO_TUPLES + ((), (None,), (None,) * 3, (0, 0), (1, 1), (2, None), (-1, None), (True, None), (None, False),
                                       (0.0, None), ("0", None), ((0,), None), (None, []), (OLD, None), [0, 1]):
            self.assert_value(InvalidPlaces, value, Change, OLD, Marks(OLD), NEW, Marks(NEW), value)
        for value in ((None, None), (0, None), (1, None), (None, 0), (1, 0)):
            Change(old=OLD, old_marks=Marks(OLD), new=NEW, new_marks=Marks(NEW), places=value)

    def test_kinds_of_places(self):
        head = "store s: x\njob\n"
        one = parse_job(head + "  repeat i in 1 2\n    set x = 1\n    set x = 2\n  end\n  set x = 3\nend")
        two = parse_job(head + "  repeat i in 3 4\n    set x = 1\n  end\n  repeat i in 1\n    set x = 1\n  end\n  atomic\n    set x = 1\n  end\nend")
        fits = {(0, 0), (1, 1), (1, 2), (3, 3), (4, 3)}
        for place in range(5):
            for source in range(4):
                places = tuple(source if at == place else None for at in range(5))
                if (place, source) in fits:
                    Change(one, Marks(one), two, Marks(two), places)
                else:
                    self.assert_value(InvalidPlaces, places, Change, one, Marks(one), two, Marks(two), places)

    def test_fars_and_words(self):
        change = Change(OLD, Marks(OLD), NEW, Marks(NEW), (0, 1))
        for value in (True, False, None, 1.0, "1", (1,), -1, 3, 10 ** 30, change):
            self.assert_value(InvalidFar, value, change.ends, value)
            self.assert_value(InvalidFar, value, change.find_wrong, value, None)
        for value in (None, "", "Old", "olds", 0, True, ("old",), ["new"], {"old": 1}, {"new"}, b"old", change):
            self.assert_value(InvalidWord, value, change.find_wrong, 1, value)

    def test_runs(self):
        change = Change(OLD, Marks(OLD), EMPTY, Marks(EMPTY), ())
        right = ((0, 0), (), (2, 1), (0,))
        self.assertEqual(change.outcome(run=right), (2, 1))
        wrongs = [right[:at] + (value,) + right[at + 1:] for at in range(4)
                  for value in NO_TUPLES + ((True,), (None,), (1.0,), ((1,),), (-1,), (3,))]
        wrongs += [right[:3], right + ((),), list(right), None, "run", 0, ((0,), (), (), ()), ((0, 0), (1,), (), ()),
                   ((0, 0), (), (3,), ()), ((0, 0), (), (), (1,))]
        for value in wrongs:
            self.assert_value(InvalidRun, value, change.outcome, value)

    def test_costs(self):
        for value in (0, (), (1,), (1, 1, 1), [1, 1], (0, 1), (1, 101), (True, 1), (1, None), "11"):
            self.assert_value(InvalidCosts, value, repaired, OLD, Marks(OLD), value)


if __name__ == "__main__":
    unittest.main()
