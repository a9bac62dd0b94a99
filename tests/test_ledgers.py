"""Points 2, 3 (h), 34, 35 and 36: ids that may be forgotten."""

import unittest
from itertools import product
from random import Random

from reference import NO_INTEGERS, NO_TUPLES, Told
from retrysafe.errors import (
    ClosedRun, DuplicateRun, InvalidName, InvalidNumber, NoCopy, NotKept, StillNeeded, UnknownRun)
from retrysafe.ledgers import Ledger

NO_NAMES = ("", "A", "a1", "toolongname", "job", "send", "a b", "\u00e9", None, 0, True, ("a",), ["a"], {"a": 1}, b"a")
NO_NUMBERS = NO_INTEGERS + (-1, 100, 10 ** 30)


class Slow:
    """What happened, kept as plain lists."""

    def __init__(self):
        self.open, self.closed, self.copies, self.ids = [], [], [], []

    def copied(self):
        found = Slow()
        found.open, found.closed, found.copies, found.ids = self.open[:], self.closed[:], self.copies[:], self.ids[:]
        return found

    def events(self):
        """All events that may happen to messages now, but for `forget`."""
        return ([("send", run, number) for run in self.open for number in (0, 1)]
                + [("arrive", *copy) for copy in sorted(set(self.copies))]
                + [("lose", *copy) for copy in sorted(set(self.copies))] + [("close", run) for run in self.open])

    def happen(self, event):
        """Makes an event happen, and tells whether a message was performed."""
        word, copy = event[0], event[1:]
        if word == "send":
            self.copies.append(copy)
        elif word == "close":
            self.open.remove(copy[0])
            self.closed.append(copy[0])
        elif word in ("arrive", "lose"):
            self.copies.remove(copy)
            if word == "arrive" and copy not in self.ids:
                self.ids.append(copy)
                return True
        return False

    def danger(self, copy):
        """The shortest row of events behind which a message is performed once its id is forgotten, by trying all."""
        begun = self.copied()
        begun.ids.remove(copy)
        rows = [([], begun)]
        for _ in range(3):
            behind = []
            for row, state in rows:
                for event in state.events():
                    ended = state.copied()
                    if ended.happen(event) and event[1:] == copy:
                        return row + [event]
                    behind.append((row + [event], ended))
            rows = behind
        return None


def told(ledger, runs=("a", "b")):
    """All that a ledger tells."""
    dangers = [ledger.danger(*message) for message in ledger.kept()]
    return ledger.kept(), ledger.forgettable(), dangers


class TestLedgers(Told):
    def test_the_example_of_the_document(self):
        ledger = Ledger()
        done = [ledger.begin("a"), ledger.send("a", 0), ledger.send("a", 0), ledger.arrive("a", 0)]
        self.assertEqual((done, ledger.forgettable(), ledger.danger("a", 0)),
                         ([None, None, None, True], [], [("arrive", "a", 0)]))
        self.assertEqual([ledger.arrive("a", 0), ledger.close("a"), ledger.forgettable()], [False, None, [("a", 0)]])

    def test_dangerous_lists(self):
        ledger = Ledger()
        ledger.begin("a")
        ledger.send("a", 7)
        self.assertIs(ledger.arrive("a", 7), True)
        self.assertEqual(ledger.danger("a", 7), [("send", "a", 7), ("arrive", "a", 7)])
        ledger.send("a", 7)
        self.assertEqual(ledger.danger("a", 7), [("arrive", "a", 7)])
        ledger.close("a")
        self.assertEqual(ledger.danger("a", 7), [("arrive", "a", 7)])
        self.assertIsNone(ledger.lose("a", 7))
        self.assertIsNone(ledger.danger("a", 7))
        self.assertIsNone(ledger.forget("a", 7))
        self.assertEqual((ledger.kept(), ledger.forgettable()), ([], []))

    def test_by_chance(self):
        random = Random(36)
        seen = {}
        for _ in range(150):
            ledger, slow = Ledger(), Slow()
            for _ in range(random.randint(0, 12)):
                fresh = [("begin", run) for run in ("a", "b") if run not in slow.open + slow.closed]
                event = random.choice(slow.events() + fresh or [None])
                if event is None:
                    break
                if event[0] == "begin":
                    slow.open.append(event[1])
                answer = getattr(ledger, event[0])(*event[1:])
                performed = slow.happen(event)
                self.assertIs(answer, performed if event[0] == "arrive" else None)
            self.assertEqual(ledger.kept(), sorted(slow.ids))
            for message in slow.ids:
                danger = slow.danger(message)
                self.assertEqual(ledger.danger(*message), danger)
                self.assertEqual(message in ledger.forgettable(), danger is None)
                seen[danger and len(danger)] = True
                if danger:
                    self.assert_raised(StillNeeded, {"run": message[0], "number": message[1]}, ledger.forget, *message)
            self.assertEqual(ledger.forgettable(), sorted(ledger.forgettable()))
        self.assertEqual(set(seen), {None, 1, 2})

    def test_a_forgotten_message_would_be_performed_again(self):
        for copies in (1, 2, 3):
            ledger = Ledger()
            ledger.begin("a")
            for _ in range(copies):
                ledger.send("a", 0)
            self.assertEqual([ledger.arrive("a", 0) for _ in range(copies)], [True] + [False] * (copies - 1))
            ledger.close("a")
            ledger.forget("a", 0)
            self.assert_raised(NoCopy, {"run": "a", "number": 0}, ledger.arrive, "a", 0)

    def test_ascending(self):
        ledger = Ledger()
        messages = [("b", 10), ("b", 9), ("a", 99), ("c", 0), ("a", 2)]
        for run in ("b", "a", "c"):
            ledger.begin(run)
        for message in messages:
            ledger.send(*message)
            ledger.arrive(*message)
        self.assertEqual(ledger.kept(), sorted(messages))
        for run in ("a", "b"):
            ledger.close(run)
        self.assertEqual(ledger.forgettable(), [("a", 2), ("a", 99), ("b", 9), ("b", 10)])

    def test_lists_are_new(self):
        ledger = Ledger()
        ledger.begin("a")
        ledger.send("a", 0)
        ledger.arrive("a", 0)
        ledger.kept().append(1)
        ledger.forgettable().append(1)
        ledger.danger("a", 0).append(1)
        self.assertEqual((ledger.kept(), ledger.forgettable(), len(ledger.danger("a", 0))), ([("a", 0)], [], 2))
        self.assertRaises(TypeError, iter, ledger)


class TestEqual(Told):
    def made(self, *events):
        ledger = Ledger()
        for event in events:
            getattr(ledger, event[0])(*event[1:])
        return ledger

    def test_the_order_of_events_does_not_matter(self):
        begun = ("begin", "a"), ("begin", "b")
        sent = ("send", "a", 0), ("send", "b", 1), ("arrive", "a", 0), ("send", "a", 0)
        self.assertEqual(self.made(*begun, *sent), self.made(*begun[::-1], sent[1], sent[0], sent[3], sent[2]))
        self.assertEqual(self.made(*begun, ("send", "a", 0), ("lose", "a", 0)), self.made(*begun))
        ended = self.made(*begun, ("send", "a", 0), ("arrive", "a", 0), ("close", "a"), ("forget", "a", 0))
        self.assertEqual(ended, self.made(*begun, ("close", "a")))

    def test_each_difference_counts(self):
        begin, send, arrive = ("begin", "a"), ("send", "a", 0), ("arrive", "a", 0)
        different = [self.made(), self.made(begin), self.made(("begin", "b")), self.made(begin, ("close", "a")),
                     self.made(begin, send), self.made(begin, send, send), self.made(begin, ("send", "a", 1)),
                     self.made(begin, send, arrive), self.made(begin, send, send, arrive),
                     self.made(begin, send, arrive, ("close", "a"))]
        for one, other in product(range(len(different)), repeat=2):
            self.assertIs(different[one] == different[other], one == other)
        self.assertFalse(Ledger() == {} or Ledger() == 0 or Ledger() is None)


class TestErrors(Told):
    def setUp(self):
        self.ledger = Ledger()
        for run in ("a", "b", "c"):
            self.ledger.begin(run)
        for message in (("a", 0), ("a", 1), ("a", 1), ("c", 3)):
            self.ledger.send(*message)
        self.ledger.arrive("a", 1)
        self.ledger.arrive("c", 3)
        self.ledger.close("b")
        self.twin = TestEqual.made(self, ("begin", "a"), ("begin", "b"), ("begin", "c"), ("send", "a", 0), ("send", "a", 1),
                                   ("send", "a", 1), ("send", "c", 3), ("arrive", "a", 1), ("arrive", "c", 3), ("close", "b"))

    def tearDown(self):
        # A call that raises an error changes nothing.
        self.assertEqual(self.ledger, self.twin)
        self.assertEqual(told(self.ledger), told(self.twin))

    def with_numbers(self):
        ledger = self.ledger
        return ledger.send, ledger.arrive, ledger.lose, ledger.forget, ledger.danger

    def test_names_and_numbers(self):
        ledger = self.ledger
        for value in NO_NAMES + NO_TUPLES[5:]:
            for action in (ledger.begin, ledger.close):
                self.assert_value(InvalidName, value, action, value)
            for action in self.with_numbers():
                self.assert_value(InvalidName, value, action, value, None)
        for value in NO_NUMBERS:
            for action in self.with_numbers():
                self.assert_value(InvalidNumber, value, action, "z", value)
                self.assert_value(InvalidNumber, value, action, "a", value)

    def test_runs(self):
        ledger = self.ledger
        for run in ("a", "b", "c"):
            self.assert_raised(DuplicateRun, {"run": run}, ledger.begin, run)
        self.assert_raised(UnknownRun, {"run": "z"}, ledger.close, "z")
        for action in self.with_numbers():
            self.assert_raised(UnknownRun, {"run": "z"}, action, "z", 0)
        self.assert_raised(ClosedRun, {"run": "b"}, ledger.close, "b")
        self.assert_raised(ClosedRun, {"run": "b"}, ledger.send, "b", 0)

    def test_copies_and_ids(self):
        ledger = self.ledger
        for message in (("a", 2), ("b", 0), ("c", 3), ("c", 0)):
            fields = {"run": message[0], "number": message[1]}
            self.assert_raised(NoCopy, fields, ledger.arrive, *message)
            self.assert_raised(NoCopy, fields, ledger.lose, *message)
        for message in (("a", 0), ("b", 0), ("c", 4)):
            fields = {"run": message[0], "number": message[1]}
            self.assert_raised(NotKept, fields, ledger.forget, *message)
            self.assert_raised(NotKept, fields, ledger.danger, *message)
        for message in (("a", 1), ("c", 3)):
            self.assert_raised(StillNeeded, {"run": message[0], "number": message[1]}, ledger.forget, *message)

    def test_arguments_by_name(self):
        ledger = self.ledger
        self.assertIs(ledger.arrive(run="a", number=0), True)
        ledger.close(run="a")
        ledger.lose(number=1, run="a")
        ledger.forget(run="a", number=1)
        self.twin = TestEqual.made(self, ("begin", "a"), ("begin", "b"), ("begin", "c"), ("send", "a", 0), ("arrive", "a", 0),
                                   ("send", "c", 3), ("arrive", "c", 3), ("close", "b"), ("close", "a"))


if __name__ == "__main__":
    unittest.main()
