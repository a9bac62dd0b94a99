"""Points 2, 3 (c), 31, 32 and 33: jobs that send messages."""

import unittest
from itertools import combinations
from random import Random

from reference import NO_TUPLES, Told, all_choices, job_by_chance, marked_by_chance
from retrysafe.errors import InvalidMarks, InvalidNetwork, UnknownJob
from retrysafe.jobs import Job
from retrysafe.marks import Marks
from retrysafe.meanings import Matrix, meaning
from retrysafe.networks import Network, NetworkStudy
from retrysafe.spaces import Space
from retrysafe.studies import Study
from retrysafe.texts import format_job, parse_job
from slow_networks import matrix_by_chance, network_by_chance, plain_matrix, right_by_chance

BOX = parse_job("store b: y\ngiven v\njob\n  set y = v\nend")
TOP = parse_job("store a: x\njob\n  send box x\n  send box x + 1\nend")
COUNT = parse_job("store b: y\ngiven v\njob\n  set y = v + y\nend")
TAKING = parse_job("store a: x\nlocal t\njob\n  take t\n  send box t\n  set x = t + x\nend")
EMPTY = Job((("s", ("x",)),), ("n",), (), ())
PAIR = Network((("box", BOX), ("top", TOP)))


def job(text):
    return parse_job(text)


def of(network, **places):
    """Marks of all jobs of a network, none where no places are told."""
    return {name: Marks(one, places.get(name, ())) for name, one in network.jobs}


def marks_by_chance(random, network):
    return {name: Marks(one, marked_by_chance(random, one)) for name, one in network.jobs}


def safe(network, name, **places):
    return network.study(name, of(network, **places)).is_safe


def matrix(rows):
    """A matrix as a vector, with its last row."""
    return tuple(entry for row in rows for entry in row) + (0,) * (len(rows[0]) - 1) + (1,)


class TestNetwork(Told):
    def test_the_example_of_the_document(self):
        self.assertEqual([safe(PAIR, "top", top=places) for places in [(), (0,), (1,), (0, 1)]], [False, True, False, True])
        self.assertEqual([PAIR.meaning("top").rows, PAIR.fewest("top", of(PAIR))[0]], [((0, 1, 1), (0, 1, 0)), 1])

    def test_properties(self):
        self.assertEqual((PAIR.jobs, PAIR.variables), ((("box", BOX), ("top", TOP)), ("y", "x")))
        self.assertIs(PAIR.named("box"), BOX)
        self.assertIs(PAIR.named(name="top"), TOP)
        both = job("store b: y z\nstore a: x\nstore c: w\njob\nend")
        four = Network((("d", job("store c: w\njob\nend")), ("e", both), ("f", job("store a: x\nstore d: p q\njob\nend"))))
        self.assertEqual(four.variables, ("w", "y", "z", "x", "p", "q"))
        for name in ("jobs", "variables"):
            with self.assertRaises(AttributeError):
                setattr(PAIR, name, ())
        self.assertRaises(TypeError, iter, PAIR)

    def test_equality(self):
        again = Network((("box", job(format_job(BOX))), ("top", job(format_job(TOP)))))
        self.assertTrue(again == PAIR)
        for jobs in ((("box", BOX),), (("box", BOX), ("up", TOP)), (("box", COUNT), ("top", TOP)),
                     (("box", BOX), ("top", TOP), ("up", TOP))):
            self.assertFalse(Network(jobs) == PAIR)
        self.assertFalse(PAIR == PAIR.jobs or PAIR is None or PAIR == 0)

    def test_unknown_names(self):
        for value in ("", "x", "Box", "boxx", None, 0, True, ("box",), ["box"], {"box": 1}, {"box"}, BOX, b"box"):
            self.assert_value(UnknownJob, value, PAIR.named, value)
            self.assert_value(UnknownJob, value, PAIR.meaning, value)
            self.assert_value(UnknownJob, value, PAIR.study, value, None)
            self.assert_value(UnknownJob, value, PAIR.fewest, value, of(PAIR))

    def test_wrong_marks(self):
        again = job(format_job(TOP))
        self.assertTrue(PAIR.study("top", {"top": Marks(again, (0,)), "box": Marks(BOX)}).is_safe)
        for value in (None, 0, "marks", (), [], {}, {"top": Marks(TOP)}, {"box": Marks(BOX)}, Marks(TOP),
                      {"top": Marks(TOP), "box": Marks(BOX), "up": Marks(TOP)}, {"top": Marks(TOP), "bo": Marks(BOX)},
                      {"top": Marks(TOP), "box": ()}, {"top": Marks(TOP), "box": Marks(TOP)}, {"top": None, "box": Marks(BOX)},
                      {"top": Marks(TOP), 0: Marks(BOX)}, {"top": Marks(BOX), "box": Marks(TOP)}, [("top", Marks(TOP))]):
            self.assert_value(InvalidMarks, value, PAIR.study, "top", value)
            self.assert_value(InvalidMarks, value, PAIR.fewest, "box", value)

    def test_arguments_are_not_changed(self):
        marks = of(PAIR, top=(1,))
        twin = dict(marks)
        PAIR.study(name="top", marks=marks)
        PAIR.fewest(name="top", marks=marks)
        self.assertEqual(marks, twin)


class TestWhatANetworkIs(Told):
    def assert_no_network(self, *jobs):
        self.assert_value(InvalidNetwork, jobs, Network, jobs)

    def test_forms(self):
        for value in NO_TUPLES + ((), (BOX,), ("box",), (None,), (("box",),), (("box", BOX, 1),), (["box", BOX],), (("Box", BOX),),
                                  (("job", BOX),), ((0, BOX),), (("box", None),), (("box", "job"),), (("box", Job),),
                                  (("box", BOX), ("box", BOX)), [("box", BOX)], {"box": BOX}):
            self.assert_value(InvalidNetwork, value, Network, value)
        five = tuple((name, EMPTY) for name in "abcde")
        self.assert_value(InvalidNetwork, five, Network, five)
        self.assertEqual(len(Network(jobs=five[:4]).jobs), 4)

    def test_receivers(self):
        self.assert_no_network(("top", TOP))
        self.assert_no_network(("top", TOP), ("box", BOX))
        self.assert_no_network(("bo", BOX), ("top", TOP))
        self.assert_no_network(("box", EMPTY), ("top", job("store a: y\njob\n  send box\nend")))
        self.assert_no_network(("box", BOX), ("top", job("store a: x\njob\n  send box x, x\nend")))
        self.assert_no_network(("box", BOX), ("top", job("store a: x\njob\n  repeat i in 1\n    send box\n  end\nend")))
        self.assert_no_network(("box", job("store a: x\njob\n  send box\nend")))
        takes = job("store b: y\ngiven v\njob\n  atomic\n    take y\n  end\nend")
        self.assert_no_network(("box", takes), ("top", TOP))
        self.assertEqual(Network((("box", takes), ("up", job("store a: x\njob\nend")))).variables, ("y", "x"))
        self.assertEqual(len(Network((("box", BOX), ("top", TAKING))).jobs), 2)
        self.assert_no_network(("box", BOX), ("top", TAKING), ("up", job("store c: z\njob\n  send top\nend")))

    def test_stores(self):
        two, turned = job("store s: p q\njob\nend"), job("store s: q p\njob\nend")
        part, other = job("store s: p\njob\nend"), job("store t: p\njob\nend")
        self.assertEqual(Network((("a", two), ("b", two))).variables, ("p", "q"))
        for wrong in (turned, part, other):
            self.assert_no_network(("a", two), ("b", wrong))
        self.assert_no_network(("a", part), ("b", job("store t: r\nstore u: p\njob\nend")))
        self.assertEqual(Network((("a", two), ("b", job("store t: r s\njob\nend")), ("c", job("store u: v w\njob\nend")))).variables,
                         ("p", "q", "r", "s", "v", "w"))
        self.assert_no_network(("a", two), ("b", job("store t: r s\njob\nend")), ("c", job("store u: v w x\njob\nend")))

    def test_other_names(self):
        for text in ("store s: y\ngiven x\njob\nend", "store s: y\nlocal x\njob\nend",
                     "store s: y\njob\n  repeat x in 1\n    set y = x\n  end\nend"):
            self.assert_no_network(("a", EMPTY), ("b", job(text)))
            self.assert_no_network(("b", job(text)), ("a", job("store t: x\njob\nend")))
        # Stores and jobs may be called like variables, and arguments of two jobs alike.
        Network((("x", EMPTY), ("s", job("store y: z\ngiven n\njob\nend"))))


class TestMeaning(Told):
    def test_by_chance(self):
        random = Random(31)
        sends = 0
        for _ in range(150):
            network = network_by_chance(random, 4, 4)
            for name, one in network.jobs:
                self.assertEqual(network.meaning(name), Matrix(plain_matrix(network, name)))
                sends += any(one.statement(place)[0] == "send" for place, _ in one.executions)
        self.assertGreater(sends, 50)

    def test_a_job_that_sends_nothing(self):
        random = Random(32)
        for _ in range(30):
            one = job_by_chance(random, 6, 8)
            self.assertEqual(Network((("one", one),)).meaning("one"), meaning(one))

    def test_a_receiver_writes_what_its_sender_reads(self):
        network = Network((("box", COUNT), ("top", job("store b: y\nstore a: x\njob\n  repeat i in 1 2\n    send box i + y\n"
                                                       "    set x = x + y\n  end\nend"))))
        self.assertEqual(network.variables, ("y", "x"))
        self.assertEqual(network.meaning("top").rows, ((4, 0, 4), (6, 1, 5)))
        self.assertEqual(network.meaning("box").rows, ((1, 0, 1, 0), (0, 1, 0, 0)))

    def test_takes(self):
        network = Network((("box", COUNT), ("top", TAKING)))
        self.assertEqual(network.meaning("top").rows, ((1, 0, 1, 0), (0, 1, 1, 0)))


class TestStudies(Told):
    def test_one_job(self):
        random = Random(33)
        for _ in range(120):
            one = job_by_chance(random, 6, 8)
            network, marks = Network((("one", one),)), Marks(one, marked_by_chance(random, one))
            found, told = network.study("one", {"one": marks}), Study(one, marks)
            self.assertEqual((found.is_safe, found.moments), (told.is_safe, told.moments))
            self.assertIs(type(found), NetworkStudy)

    def test_ways_by_chance(self):
        random = Random(34)
        seen = {}
        for _ in range(80):
            network = network_by_chance(random, 3, 3, random.choice((0, 1, 1, 2)))
            name = network.jobs[-1][0]
            marks = marks_by_chance(random, network)
            marked = {one: marks[one].places for one in marks}
            found = network.study(name, marks)
            if found.ways is None:
                continue
            ways = Space(found.ways.width)
            for _ in range(20):
                runs = {matrix_by_chance(random, network, marked, name, 4, 4) for _ in range(120)}
                for run in runs:
                    self.assertIn(run, found.ways)
                ways = ways | Space(ways.width, sorted(runs))
                if ways == found.ways:
                    break
            self.assertEqual(ways, found.ways)
            plain = Space(ways.width, [matrix(network.meaning(name).rows)])
            self.assertTrue(plain.is_within(ways))
            self.assertEqual((found.is_safe, found.moments), (ways == plain, () if ways == plain else None))
            seen[len(ways)] = True
        self.assertTrue({1, 2, 3} <= set(seen), seen)

    def test_takes_by_chance(self):
        random = Random(35)
        seen = {}
        while sum(seen.values()) < 20:
            network = network_by_chance(random, 3, 4, 1)
            name, one = network.jobs[-1]
            if len(network.meaning(name).rows[0]) == len(network.variables) + len(one.arguments) + 1:
                continue
            marks = marks_by_chance(random, network)
            marked = {other: marks[other].places for other in marks}
            alive = all_choices(one)
            for _ in range(300):
                is_right = right_by_chance(random, network, marked, name, network.meaning(name).rows, 4, 4)
                alive = [choice for choice in alive if is_right(choice)]
            found = network.study(name, marks)
            self.assertIsNone(found.ways)
            self.assertEqual((found.moments, found.is_safe), (alive[0] if alive else None, len(alive) > 0))
            seen[found.moments] = seen.get(found.moments, 0) + 1
        self.assertTrue(None in seen and len(seen) > 2, seen)

    def test_ways_of_a_job_without_steps(self):
        found = Network((("one", EMPTY),)).study("one", {"one": Marks(EMPTY)})
        self.assertEqual((found.moments, found.is_safe), ((), True))
        self.assertEqual(found.ways, Space(6, [(1, 0, 0, 0, 0, 1)]))

    def test_ways_of_the_example(self):
        self.assertEqual(PAIR.study("box", of(PAIR)).ways, Space(12, [matrix(((0, 0, 1, 0), (0, 1, 0, 0)))]))
        self.assertEqual(PAIR.study("top", of(PAIR)).ways,
                         Space(9, [matrix(((0, 1, 1), (0, 1, 0))), matrix(((0, 1, 0), (0, 1, 0)))]))

    def test_studies_are_constant(self):
        found = PAIR.study("top", of(PAIR))
        for name in ("is_safe", "moments", "ways"):
            with self.assertRaises(AttributeError):
                setattr(found, name, ())
        self.assertRaises(TypeError, iter, found)


class TestMessages(Told):
    def test_a_message_comes_twice(self):
        network = Network((("box", COUNT), ("top", job("store a: x\njob\n  send box 1\n  set x = 2\nend"))))
        self.assertEqual([safe(network, "top", top=places, box=(0,)) for places in ((), (0,), (1,), (0, 1))],
                         [False, True, False, True])

    def test_a_receiver_that_fails(self):
        network = Network((("box", COUNT), ("top", job("store a: x\njob\n  send box 1\nend"))))
        self.assertEqual([[safe(network, "top", top=top, box=box) for top in ((), (0,))] for box in ((), (0,))],
                         [[False, False], [False, True]])
        self.assertIsNone(network.fewest("top", of(network)))
        self.assertEqual(network.fewest("top", of(network, box=(0,))), (1, Marks(network.named("top"), (0,))))
        # The marks of the job itself that the dict has do not matter.
        self.assertEqual(network.fewest("box", of(network, box=(0,))), network.fewest("box", of(network)))

    def test_a_copy_comes_late_between_moves(self):
        # Twice the same message does no harm, but it does behind the second one, ahead of which y was written.
        top = job("store a: x\nstore b: y\njob\n  send box 1\n  set y = 2\n  set x = y\n  send box 3\nend")
        network = Network((("box", BOX), ("top", top)))
        self.assertEqual([safe(network, "top", top=places) for places in ((), (0,), (0, 1), (0, 3), (3,), (0, 1, 2, 3))],
                         [False, False, False, False, False, True])
        self.assertEqual(network.fewest("top", of(network)), (2, Marks(top, (0, 2))))

    def test_a_copy_comes_late_at_the_end(self):
        top = job("store b: y\njob\n  send box 1\n  set y = 2\nend")
        network = Network((("box", BOX), ("top", top)))
        self.assertEqual([safe(network, "top", top=places) for places in ((), (0,), (1,), (0, 1))], [False, True, False, True])
        last = Network((("box", BOX), ("top", job("store b: y\njob\n  set y = 2\n  send box 1\nend"))))
        self.assertTrue(safe(last, "top"))

    def test_messages_of_a_receiver_are_gone_when_its_sender_goes_on(self):
        mid = job("store c: w\njob\n  send box 1\nend")
        top = job("store b: y\njob\n  send mid\n  set y = 2\nend")
        network = Network((("box", BOX), ("mid", mid), ("top", top)))
        # The copy of a marked message of the top does not come late, and that of the message to the box is gone.
        self.assertEqual([safe(network, "top", top=places) for places in ((), (0,), (1,), (0, 1))], [False, True, False, True])
        self.assertTrue(safe(network, "mid"))

    def test_messages_of_a_receiver_come_late_at_its_end(self):
        mid = job("store b: y\njob\n  send box 1\n  set y = 2\nend")
        top = job("store a: x\nstore b: y\njob\n  send mid\n  set x = y\nend")
        network = Network((("box", BOX), ("mid", mid), ("top", top)))
        self.assertEqual([[safe(network, name, mid=places, top=(0, 1)) for name in ("mid", "top")] for places in ((), (0,))],
                         [[False, False], [True, True]])
        found = network.study("top", of(network, top=(0, 1)))
        self.assertEqual(found.ways, Space(9, [matrix(((0, 0, 2), (0, 0, 2))), matrix(((0, 0, 1), (0, 0, 1)))]))

    def test_flags_count_for_one_run(self):
        # The marked step of the box is performed for each message.
        network = Network((("box", COUNT), ("top", job("store a: x\njob\n  send box 1\n  send box x\nend"))))
        found = network.study("top", of(network, box=(0,), top=(0, 1)))
        self.assertEqual(found.ways, Space(9, [matrix(((1, 1, 1), (0, 1, 0)))]))

    def test_two_jobs_write_the_same_store(self):
        box = job("store a: x y\ngiven v\njob\n  set x = v\nend")
        top = job("store a: x y\njob\n  set y = x\n  send box 7\nend")
        network = Network((("box", box), ("top", top)))
        self.assertEqual([safe(network, "top", top=places) for places in ((), (0,), (1,), (0, 1))], [False, True, False, True])
        self.assertEqual(network.fewest("top", of(network)), (1, Marks(top, (0,))))

    def test_a_repeat_that_sends(self):
        top = job("store a: x\njob\n  repeat i in 1 2 3\n    send box i\n  end\nend")
        network = Network((("box", BOX), ("top", top)))
        # Behind a marked round its message is passed over, but it waits on.
        self.assertEqual([safe(network, "top", top=places) for places in ((), (0,), (1,), (0, 1))], [False, False, True, True])
        self.assertEqual(network.fewest("top", of(network)), (1, Marks(top, (1,))))
        one = Network((("box", BOX), ("top", job("store a: x\njob\n  repeat i in 4\n    send box i\n  end\nend"))))
        self.assertTrue(safe(one, "top"))

    def test_marked_and_unmarked_sends(self):
        top = job("store a: x\nlocal t\njob\n  set t = x\n  send box t\n  set x = t + 1\nend")
        network = Network((("box", BOX), ("top", top)))
        told = {places: safe(network, "top", top=places) for many in range(4) for places in combinations(range(3), many)}
        self.assertEqual([places for places in told if told[places]], [(0,), (0, 1), (0, 2), (1, 2), (0, 1, 2)])
        self.assertEqual(network.fewest("top", of(network)), (1, Marks(top, (0,))))

    def test_the_message_that_waits(self):
        # x is another one in the second attempt: then the first message or the second one waits.
        top = job("store a: x\nstore b: y\njob\n  send box x\n  set x = 5\n  set y = 0\nend")
        network = Network((("box", BOX), ("top", top)))
        found = network.study("top", of(network))
        rows = {told: matrix((told, (0, 0, 5))) for told in ((0, 0, 0), (0, 1, 0), (0, 0, 5))}
        self.assertEqual(network.variables, ("y", "x"))
        self.assertEqual(found.ways, Space(9, list(rows.values())))
        # With the step that changes x marked, the second message may be another one still.
        self.assertEqual(network.study("top", of(network, top=(1,))).ways, found.ways)
        self.assertEqual(network.study("top", of(network, top=(0,))).ways, Space(9, [rows[0, 0, 0]]))

    def test_messages_without_values(self):
        box = job("store b: y\njob\n  set y = y + 1\nend")
        network = Network((("box", box), ("top", job("store a: x\njob\n  send box\nend"))))
        self.assertEqual(network.meaning("top").rows, ((1, 0, 1), (0, 1, 0)))
        self.assertEqual([safe(network, "top", top=places, box=(0,)) for places in ((), (0,))], [False, True])

    def test_a_job_that_takes(self):
        network = Network((("box", BOX), ("top", TAKING)))
        told = {}
        for many in range(4):
            for places in combinations(range(3), many):
                found = network.study("top", of(network, top=places))
                self.assertIsNone(found.ways)
                told[places] = found.moments
        self.assertEqual(told, {(): None, (0,): None, (1,): None, (2,): None, (0, 1): None, (0, 2): (0,), (1, 2): None,
                                (0, 1, 2): (0,)})
        last = Network((("box", BOX), ("top", job("store a: x\nlocal t\njob\n  take t\n  send box t\nend"))))
        self.assertEqual([last.study("top", of(last, top=places)).moments for places in ((), (0,), (1,), (0, 1))],
                         [None, (0,), (1,), (0,)])
        self.assertEqual(last.fewest("top", of(last)), (1, Marks(last.named("top"), (0,))))


class TestFewest(Told):
    def test_by_chance(self):
        random = Random(330)
        seen = {}
        for _ in range(50):
            network = network_by_chance(random, 3, 3, random.choice((0, 1, 2)))
            marks = marks_by_chance(random, network)
            name, one = random.choice(network.jobs)
            told = [Marks(one, places) for many in range(one.places + 1) for places in combinations(range(one.places), many)
                    if network.study(name, {**marks, name: Marks(one, places)}).is_safe]
            found = network.fewest(name, marks)
            self.assertEqual(found, (len(told[0]), told[0]) if told else None)
            seen[found and found[0]] = True
        self.assertTrue({None, 0, 1} <= set(seen), seen)

    def test_four_jobs_with_six_variables(self):
        one = job("store b: y z\ngiven v w\nlocal t\njob\n  set t = v + y\n  set y = t + w\n  set z = t + 2 * z\nend")
        two = job("store c: u p\nstore b: y z\ngiven k l m\nlocal t\njob\n  set t = k + u\n  send one t, y\n  set u = l + u + y\n"
                  "  send one p, u\n  set p = m + t + z\nend")
        three = job("store a: x q\nstore c: u p\ngiven n\nlocal r s\njob\n  set r = n + x\n  send two r, u, x\n  set x = r + u\n"
                    "  send two p, q, x\n  set q = p + q + r\n  send one r, x\nend")
        four = job("store a: x q\nstore c: u p\nlocal r\njob\n  set r = x\n  send two r, u, x\n  set x = r + u\n"
                   "  send three x\n  take r\n  send three r\nend")
        network = Network((("one", one), ("two", two), ("three", three), ("four", four)))
        self.assertEqual(len(network.variables), 6)
        full = {name: tuple(range(one.places)) for name, one in network.jobs}
        self.assertEqual([safe(network, name, **full) for name in full], [True] * 4)
        self.assertEqual([network.study(name, of(network)).is_safe for name in ("one", "two")], [False] * 2)
        self.assertEqual([network.fewest(name, of(network, **full))[0] for name in full], [2, 4, 6, 4])
        self.assertIsNone(network.fewest("four", of(network)))
        random = Random(4)
        ways = network.study("three", of(network)).ways
        self.assertEqual(ways.width, 7 * 8)
        for _ in range(40):
            self.assertIn(matrix_by_chance(random, network, {name: () for name in full}, "three"), ways)

    def test_long_numbers(self):
        box = job(f"store b: y\ngiven v\njob\n  set y = {10 ** 99 + 7} * v + y\nend")
        top = job(f"store a: x\nlocal t\njob\n  set t = {3 ** 200} * x\n  send box t\n  set x = {7 ** 100} * t + x\nend")
        network = Network((("box", box), ("top", top)))
        self.assertEqual(network.fewest("top", of(network, box=(0,))), (2, Marks(top, (1, 2))))
        self.assertFalse(safe(network, "top"))
        self.assertEqual(network.meaning("top").rows[0], (1, 3 ** 200 * (10 ** 99 + 7), 0))

    def test_the_greatest_job(self):
        inner = "    set t = i + t + x\n    atomic\n      set x = t\n      set z = n + x\n    end\n"
        top = job("store a: x z\ngiven n\nlocal t u\njob\n  send box z\n  repeat i in 1 2 3 4\n" + inner + "  end\n  repeat i in 2 3\n"
                  "    set u = i + u + x\n    send box u\n  end\n  repeat i in 7 8 9\n    set z = i + z\n  end\nend")
        network = Network((("box", COUNT), ("top", top)))
        self.assertEqual((top.places, len(top)), (9, 16))
        total, marks = network.fewest("top", of(network, box=(0,)))
        self.assertEqual(total, len(marks))
        self.assertTrue(safe(network, "top", top=marks.places, box=(0,)))
        self.assertIsNone(network.fewest("top", of(network)))


if __name__ == "__main__":
    unittest.main()
