"""A trace of seen values ([24]), and trials of deeds ([25])."""

import copy
import random
import unittest

from handedtext.desk import Trace, try_all
from handedtext.errors import (
    CannotBe, HandedError, InvalidNumber, InvalidSides, InvalidValue, NothingToRedo, NothingToUndo, TooMany,
    UnknownDeed,
)
from handedtext.ways import before
from oracle import hops_by_search, some_sides
from samples import HUGE, HUGE_OTHER, NO_INTEGERS, SLOW, mirrored, nested, wrong_lists_of_sides

SIDES = [(0, 10, "up"), (3, 10, "down")]

NO_NUMBERS = NO_INTEGERS + (-1, -2, 10 ** 199, -10 ** 199)


def traced(*values, sides=SIDES):
    """Return a trace in which these values were seen."""
    trace = Trace(sides)
    for value in values:
        trace.see(value)
    return trace


def values_of(trace):
    """Return the values of a trace."""
    return [trace[number] for number in range(len(trace))]


def whole(trace):
    """Return the values of a trace, what undo leads through, and what redo does; the trace is as before then."""
    ahead, behind = [], []
    now = values_of(trace)
    try:
        while True:
            trace.undo()
            ahead.append(values_of(trace))
    except NothingToUndo:
        pass
    for _ in ahead:
        trace.redo()
    try:
        while True:
            trace.redo()
            behind.append(values_of(trace))
    except NothingToRedo:
        pass
    for _ in behind:
        trace.undo()
    return now, ahead, behind


class TraceTest(unittest.TestCase):

    def check_refused(self, trace, kind, deed, *row):
        """Check that a deed is refused with an error of a kind, and changes nothing."""
        kept = whole(trace)
        with self.assertRaises(kind, msg=(deed, repr(row)[:80])) as caught:
            getattr(trace, deed)(*row)
        self.assertIs(caught.exception.__class__, kind)
        self.assertEqual(whole(trace), kept)

    def test_sides(self):
        for thing in wrong_lists_of_sides():
            with self.assertRaises(InvalidSides, msg=repr(thing)[:80]):
                Trace(thing)
        sides = list(SIDES)
        trace = Trace(sides=sides)
        sides[:] = [(0, 7, "up")]
        trace.see(7)
        trace.see(10)
        self.check_refused(trace, CannotBe, "see", 14)

    def test_see(self):
        trace = Trace(SIDES)
        self.assertEqual(values_of(trace), [])
        for value in (7, 7, 10, 3, 10):
            self.assertIsNone(trace.see(value))
        self.assertEqual(values_of(trace), [7, 7, 10, 3, 10])
        self.assertIsNone(trace.see(value=3))
        for value in (7, 11, 13, -10 ** 199):
            self.check_refused(trace, CannotBe, "see", value)
        for thing in NO_INTEGERS:
            self.check_refused(trace, InvalidValue, "see", thing)
            self.check_refused(Trace(SIDES), InvalidValue, "see", thing)

    def test_slip(self):
        trace = traced(1, 10)
        self.assertIsNone(trace.slip(1, 3))
        self.assertEqual(values_of(trace), [1, 3, 10])
        self.assertIsNone(trace.slip(0, 1))
        self.assertEqual(values_of(trace), [1, 1, 3, 10])
        self.assertIsNone(trace.slip(value=10, number=2))
        self.assertEqual(values_of(trace), [1, 1, 10, 3, 10])
        for number in (5, 6, 10 ** 199) + NO_NUMBERS:
            for value in (10, 13, None, True):
                self.check_refused(trace, InvalidNumber, "slip", number, value)
                self.check_refused(Trace(SIDES), InvalidNumber, "slip", number, value)
        self.check_refused(Trace(SIDES), InvalidNumber, "slip", 0, 5)
        for thing in NO_INTEGERS:
            for number in (0, 2, 4):
                self.check_refused(trace, InvalidValue, "slip", number, thing)
        # The one ahead cannot come to it; it cannot come to the next one; neither.
        for number, value in ((2, 2), (1, 0), (0, 14), (0, 0), (4, 11), (4, 13)):
            self.check_refused(trace, CannotBe, "slip", number, value)

    def test_drop(self):
        trace = traced(1, 3, 10, 3)
        self.assertIsNone(trace.drop(1))
        self.assertEqual(values_of(trace), [1, 10, 3])
        self.assertIsNone(trace.drop(number=2))
        self.assertEqual(values_of(trace), [1, 10])
        for number in (2, 3) + NO_NUMBERS:
            self.check_refused(trace, InvalidNumber, "drop", number)
        trace.drop(0)
        trace.drop(0)
        self.assertEqual(values_of(trace), [])
        self.check_refused(trace, InvalidNumber, "drop", 0)

    def test_fifty_values_and_one_more(self):
        trace = Trace(SIDES)
        for number in range(50):
            trace.see((10, 3)[number % 2])
        self.assertEqual(len(trace), 50)
        for value in (10, 3, 13):
            self.check_refused(trace, TooMany, "see", value)
            self.check_refused(trace, TooMany, "slip", 7, value)
        self.check_refused(trace, InvalidValue, "see", None)
        self.check_refused(trace, InvalidValue, "slip", 49, True)
        self.check_refused(trace, InvalidNumber, "slip", 50, 3)
        self.assertIs(trace.allows(10), True)
        self.assertIs(trace.allows(13), False)
        trace.drop(49)
        trace.see(3)
        self.assertEqual(len(trace), 50)
        trace.undo()
        trace.slip(0, 1)
        self.assertEqual((len(trace), trace[0]), (50, 1))

    def test_undo_and_redo(self):
        trace = Trace(SIDES)
        self.check_refused(trace, NothingToUndo, "undo")
        self.check_refused(trace, NothingToRedo, "redo")
        states = [[]]
        for deed, row in (("see", (10,)), ("see", (3,)), ("slip", (0, 7)), ("drop", (1,)), ("see", (3,)),
                          ("drop", (0,))):
            getattr(trace, deed)(*row)
            states.append(values_of(trace))
        self.assertEqual(states, [[], [10], [10, 3], [7, 10, 3], [7, 3], [7, 3, 3], [3, 3]])
        for state in states[-2::-1]:
            self.assertIsNone(trace.undo())
            self.assertEqual(values_of(trace), state)
        self.check_refused(trace, NothingToUndo, "undo")
        for state in states[1:]:
            self.assertIsNone(trace.redo())
            self.assertEqual(values_of(trace), state)
        self.check_refused(trace, NothingToRedo, "redo")

    def test_a_deed_behind_an_undo(self):
        for deed, row, values in (("see", (3,), [7, 10, 3]), ("slip", (1, 7), [7, 7, 10]), ("drop", (0,), [10])):
            trace = traced(7, 10, 3, 10)
            trace.undo()
            trace.undo()
            getattr(trace, deed)(*row)
            self.assertEqual(values_of(trace), values)
            self.check_refused(trace, NothingToRedo, "redo")
            trace.undo()
            self.assertEqual(values_of(trace), [7, 10])
            trace.redo()
            self.assertEqual(values_of(trace), values)

    def test_refused_deeds_keep_what_can_be_done_again(self):
        trace = traced(7, 10, 3, 10, 3)
        trace.undo()
        trace.undo()
        for kind, deed, row in (
                (InvalidValue, "see", (None,)), (CannotBe, "see", (20,)), (InvalidNumber, "slip", (3, 10)),
                (InvalidValue, "slip", (0, "7")), (CannotBe, "slip", (2, 13)), (InvalidNumber, "drop", (3,))):
            self.check_refused(trace, kind, deed, *row)
        trace.redo()
        trace.redo()
        self.assertEqual(values_of(trace), [7, 10, 3, 10, 3])
        self.check_refused(trace, NothingToRedo, "redo")

    def test_starts(self):
        trace = Trace(SIDES)
        self.assertEqual(trace.starts(), (None, None))
        for value in (10, 3):
            trace.see(value)
            self.assertEqual(trace.starts(), (1, 12))
        trace.slip(0, 7)
        self.assertEqual(trace.starts(), (7, 7))
        self.assertEqual(traced(0, sides=[(0, 10, "up"), (5, 10, "up")]).starts(), (None, 0))
        for sides in some_sides(110, 100, most_step=8):
            self.assertEqual(traced(5, sides=sides).starts(), before(sides, 5))

    def test_allows(self):
        trace = Trace(SIDES)
        for value in (0, 5, -10 ** 199):
            self.assertIs(trace.allows(value), True)
        trace.see(7)
        for value in range(-20, 30):
            self.assertIs(trace.allows(value), value in (3, 7, 10))
        self.assertIs(trace.allows(value=10), True)
        for thing in NO_INTEGERS:
            for each in (trace, Trace(SIDES), traced(1, sides=SLOW)):
                with self.assertRaises(InvalidValue):
                    each.allows(thing)
        self.assertEqual(values_of(trace), [7])

    def test_index(self):
        trace = traced(7, 10, 3)
        self.assertEqual([trace[0], trace[1], trace[2]], [7, 10, 3])
        for number in (3, 4) + NO_NUMBERS:
            with self.assertRaises(InvalidNumber, msg=repr(number)[:80]):
                trace[number]
            with self.assertRaises(InvalidNumber):
                Trace(SIDES)[number]
        for number in (slice(0, 2), 0.0, 1.5):
            with self.assertRaises(InvalidNumber):
                trace[number]
        with self.assertRaises(InvalidNumber):
            Trace(SIDES)[0]
        with self.assertRaises(TypeError):
            iter(trace)

    def test_contains_and_len(self):
        trace = traced(1, 10, 3, sides=SIDES)
        self.assertEqual((len(trace), len(Trace(SIDES))), (3, 0))
        for value in (1, 10, 3):
            self.assertIs(value in trace, True)
            self.assertIs(value in Trace(SIDES), False)
        for thing in NO_INTEGERS + (0, 2, 7, [1], 10 ** 199, 1.0):
            self.assertIs(thing in trace, False)
        self.assertIs(0 in traced(0), True)
        self.assertIs(False in traced(0), False)

    def test_too_many_of_before_and_fault(self):
        for sides, sign in ((SLOW, 1), (mirrored(SLOW), -1)):
            trace = traced(sign * 1, sides=sides)
            self.check_refused(trace, TooMany, "see", sign * 25420)
            with self.assertRaises(TooMany):
                trace.allows(sign * 25420)
            trace = traced(sign * 25420, sides=sides)
            trace.see(sign * 25420)
            self.assertIs(trace.allows(sign * 25420), True)
            with self.assertRaises(TooMany):
                trace.starts()
            for number in (0, 1):
                # That the value comes to the next one, or that the one ahead comes to it, is looked at first.
                self.check_refused(trace, TooMany if number == 0 else CannotBe, "slip", number, sign * 25389)
                trace.slip(number, sign * 25420)
            trace = traced(sign * 1, sign * 25389, sides=sides)
            self.check_refused(trace, TooMany, "slip", 1, sign * 25420)
            self.check_refused(trace, CannotBe, "slip", 0, sign * 25420)
            self.assertIs(trace.allows(sign * 25388), False)
            trace.drop(0)
            self.assertEqual(trace.starts(), (1, 25389) if sign > 0 else (-25389, -1))
        trace = traced(1, sides=[(0, HUGE, "up"), (1, HUGE_OTHER, "up")])
        self.check_refused(trace, TooMany, "see", 0)
        trace.see(1)
        self.assertEqual(values_of(trace), [1, 1])

    def test_new_answers(self):
        trace = traced(7, 10)
        self.assertEqual(trace.starts(), (7, 7))
        other = traced(7, 10)
        other.see(3)
        self.assertEqual((values_of(trace), values_of(other)), ([7, 10], [7, 10, 3]))


class RandomDeedsTest(unittest.TestCase):

    def model_deed(self, model, sides_hops, deed):
        """Do a deed in a model (states, at), or return the error of it."""
        states, at = model
        seen = states[at]
        word, *row = deed
        if word == "undo":
            return NothingToUndo if at == 0 else (states, at - 1)
        if word == "redo":
            return NothingToRedo if at + 1 == len(states) else (states, at + 1)
        if word in ("slip", "drop") and row[0] not in range(len(seen)):
            return InvalidNumber
        if word == "drop":
            return states[:at + 1] + [seen[:row[0]] + seen[row[0] + 1:]], at + 1
        number = len(seen) if word == "see" else row[0]
        value = row[-1]
        if not isinstance(value, int):
            return InvalidValue
        if len(seen) == 50:
            return TooMany
        after = seen[:number] + [value] + seen[number:]
        for start, there in list(zip(after, after[1:]))[max(0, number - 1):number + 1]:
            if there not in sides_hops:
                sides_hops[there] = hops_by_search(sides_hops["sides"], there)
            if start not in sides_hops[there]:
                return CannotBe
        return states[:at + 1] + [after], at + 1

    def test_random_deeds_against_a_model(self):
        source = random.Random(111)
        kinds = set()
        for sides in some_sides(112, 25, most_step=4, most_sides=3):
            trace, model, told = Trace(sides), ([[]], 0), {"sides": sides}
            many = source.choice((30, 150))
            for _ in range(many):
                word = source.choice(("see", "see", "see", "slip", "slip", "drop", "undo", "redo"))
                last = model[0][model[1]][-1:] or [0]
                value = source.choice((last[0], last[0] + source.randint(-3, 3), source.randint(-6, 6), None))
                number = source.randint(-1, len(trace))
                deed = {"see": (word, value), "slip": (word, number, value), "drop": (word, number)}.get(word, (word,))
                answer = self.model_deed(model, told, deed)
                if isinstance(answer, tuple):
                    model = answer
                    self.assertIsNone(getattr(trace, word)(*deed[1:]))
                else:
                    with self.assertRaises(answer, msg=(sides, deed, model[0][model[1]])):
                        getattr(trace, word)(*deed[1:])
                states, at = model
                self.assertEqual(values_of(trace), states[at])
                kinds.add((word, answer.__name__ if not isinstance(answer, tuple) else ""))
            self.assertEqual(whole(trace), (states[at], states[:at][::-1], states[at + 1:]))
        self.assertTrue({(word, "") for word in ("see", "slip", "drop", "undo", "redo")} <= kinds)
        self.assertTrue({("see", "CannotBe"), ("slip", "CannotBe"), ("slip", "InvalidNumber"), ("see", "InvalidValue"),
                         ("slip", "InvalidValue"), ("undo", "NothingToUndo"), ("redo", "NothingToRedo")} <= kinds)


class TrialTest(unittest.TestCase):

    def test_a_block_without_an_error(self):
        trace = traced(7)
        with trace.trial() as same:
            self.assertIs(same, trace)
            same.see(10)
            same.see(3)
            same.undo()
        self.assertEqual(whole(trace), ([7, 10], [[7], []], [[7, 10, 3]]))

    def test_an_error_of_any_kind(self):
        for kind in (CannotBe, HandedError, ValueError, KeyError, ZeroDivisionError, KeyboardInterrupt, SystemExit,
                     GeneratorExit, StopIteration, AssertionError, Exception, BaseException):
            trace = traced(7, 10, 3)
            trace.undo()
            kept = whole(trace)
            error = kind("why")
            with self.assertRaises(kind) as caught:
                with trace.trial():
                    trace.see(10)
                    trace.slip(0, 7)
                    trace.drop(1)
                    trace.undo()
                    raise error
            self.assertIs(caught.exception, error)
            self.assertEqual(whole(trace), kept)

    def test_an_error_behind_undo_and_redo(self):
        for deeds in (("undo",), ("undo", "undo", "undo"), ("redo",), ("undo", "undo", "redo"),
                      ("redo", "undo", "undo"), ()):
            trace = traced(7, 10, 3, 10)
            trace.undo()
            kept = whole(trace)
            with self.assertRaises(KeyError):
                with trace.trial():
                    for deed in deeds:
                        getattr(trace, deed)()
                    if len(trace) > 1:
                        trace.drop(0)
                    raise KeyError
            self.assertEqual(whole(trace), kept)

    def test_a_refused_deed_that_leaves_the_block(self):
        trace = traced(7)
        with self.assertRaises(CannotBe):
            with trace.trial():
                trace.see(10)
                trace.see(11)
        self.assertEqual(whole(trace), ([7], [[]], []))
        with trace.trial():
            trace.see(10)
            with self.assertRaises(CannotBe):
                trace.see(11)
        self.assertEqual(whole(trace), ([7, 10], [[7], []], []))

    def test_the_block_begins_under_with(self):
        trace = traced(7)
        trial = trace.trial()
        trace.see(10)
        with self.assertRaises(KeyError):
            with trial as same:
                same.see(3)
                raise KeyError
        self.assertEqual(whole(trace), ([7, 10], [[7], []], []))
        trace.see(3)
        with self.assertRaises(KeyError):
            with trial as same:
                same.see(10)
                raise KeyError
        self.assertEqual(whole(trace), ([7, 10, 3], [[7, 10], [7], []], []))

    def test_a_trial_within_a_trial(self):
        trace = traced(7)
        with trace.trial():
            trace.see(10)
            with self.assertRaises(KeyError):
                with trace.trial():
                    trace.see(3)
                    raise KeyError
            self.assertEqual(values_of(trace), [7, 10])
            with trace.trial():
                trace.see(3)
        self.assertEqual(whole(trace), ([7, 10, 3], [[7, 10], [7], []], []))
        trace.undo()
        kept = whole(trace)
        with self.assertRaises(ZeroDivisionError):
            with trace.trial():
                trace.redo()
                with trace.trial():
                    trace.see(10)
                trace.undo()
                with self.assertRaises(KeyError):
                    with trace.trial():
                        trace.drop(0)
                        raise KeyError
                trace.redo()
                self.assertEqual(values_of(trace), [7, 10, 3, 10])
                raise ZeroDivisionError
        self.assertEqual(whole(trace), kept)

    def test_undo_and_redo_behind_it_step_by_step(self):
        trace = traced(7)
        with trace.trial():
            trace.see(10)
            trace.see(3)
        for values in ([7, 10], [7], []):
            trace.undo()
            self.assertEqual(values_of(trace), values)
        for values in ([7], [7, 10], [7, 10, 3]):
            trace.redo()
            self.assertEqual(values_of(trace), values)

    def test_deeds_behind_a_failed_one(self):
        trace = traced(7)
        trial = trace.trial()
        with self.assertRaises(KeyError):
            with trial:
                trace.see(10)
                raise KeyError
        trace.see(7)
        trace.undo()
        self.assertEqual(whole(trace), ([7], [[]], [[7, 7]]))


class TryAllTest(unittest.TestCase):

    def test_each_form(self):
        trace = Trace(SIDES)
        deeds = [("see", 10), ("see", 3), ("slip", 0, 7), ("drop", 1), ("undo",), ("undo",), ("redo",)]
        kept = copy.deepcopy(deeds)
        self.assertIsNone(try_all(trace, deeds))
        self.assertEqual(deeds, kept)
        self.assertEqual(whole(trace), ([7, 10, 3], [[10, 3], [10], []], [[7, 3]]))
        self.assertIsNone(try_all(deeds=[("redo",), ("see", 3)], trace=trace))
        self.assertEqual(values_of(trace), [7, 3, 3])
        self.assertIsNone(try_all(trace, []))
        self.assertEqual(whole(trace)[1:], ([[7, 3], [7, 10, 3], [10, 3], [10], []], []))

    def check_undone(self, kind, *deeds):
        """Check that some deeds end with an error of a kind, and leave nothing behind."""
        trace = traced(7, 10, 3, 10)
        trace.undo()
        before_it = whole(trace)
        rows = [("see", 10), ("undo",), ("undo",), ("redo",), ("drop", 0), *deeds]
        kept = copy.deepcopy(rows)
        with self.assertRaises(kind, msg=repr(deeds)[:120]) as caught:
            try_all(trace, rows)
        self.assertIs(caught.exception.__class__, kind)
        self.assertEqual(whole(trace), before_it)
        self.assertEqual(rows, kept)

    def test_entries_of_any_other_form(self):
        for deed in NO_INTEGERS + (
                0, 1, (), ("see",), ("see", 10, 10), ("slip",), ("slip", 0), ("slip", 0, 10, 10), ("drop",),
                ("drop", 0, 0),
                ("undo", 1), ("undo", None), ("redo", 1), ("redo", ()), ("starts",), ("See", 10), ("see ", 10),
                (10, "see"),
                (None,), (None, 10), (["see"], 10), (("see",), 10), ({}, 10), (True, 10), (nested(50),), ("",),
                ("trial",),
                ["see", 10], ["undo"], "undo", "see", ("len",), ("__len__",), {"see": 10}, (("see", 10),),
                [("see", 10)],
                ("allows", 10), ("see", 10, None, None), ("undo",) * 2, ("_go_on", [])):
            self.check_undone(UnknownDeed, deed)
            self.check_undone(UnknownDeed, deed, ("see", 10))
            self.check_undone(UnknownDeed, ("see", 3), deed, ("see", None))

    def test_refused_deeds(self):
        for kind, *deeds in (
                (InvalidValue, ("see", None)), (InvalidValue, ("see", ["see", 10])), (InvalidValue, ("slip", 0, {})),
                (InvalidNumber, ("slip", None, None)), (InvalidNumber, ("slip", 2, 10)), (InvalidNumber, ("drop", -1)),
                (InvalidNumber, ("drop", True)), (InvalidNumber, ("drop", [0])), (CannotBe, ("see", 11)),
                (CannotBe, ("slip", 0, 14)), (NothingToRedo, ("redo",)), (NothingToUndo, *[("undo",)] * 9),
                (TooMany, *[("see", 3)] * 50), (CannotBe, ("see", 11), None),
                (InvalidValue, ("see", None), ("nothing",))):
            self.check_undone(kind, *deeds)

    def test_many_deeds(self):
        trace = Trace(SIDES)
        self.assertIsNone(try_all(trace, [("see", 10), ("undo",)] * 550))
        self.assertEqual(whole(trace), ([], [], [[10]]))
        self.assertIsNone(try_all(trace, [("see", 10), ("drop", 0)] * 550))
        self.assertEqual(len(whole(trace)[1]), 1100)

    def test_within_a_trial(self):
        trace = traced(7)
        with trace.trial():
            with self.assertRaises(UnknownDeed):
                try_all(trace, [("see", 10), None])
            self.assertEqual(values_of(trace), [7])
            try_all(trace, [("see", 10), ("see", 3)])
        self.assertEqual(values_of(trace), [7, 10, 3])


if __name__ == "__main__":
    unittest.main()
