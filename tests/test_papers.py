"""Papers: entries written as text ([20]) and read ([21])."""

import collections
import copy
import random
import unittest

from handedtext.errors import InvalidEntries, InvalidLine, InvalidValue, UnknownName
from handedtext.figures import text_of
from handedtext.papers import log_of, paper_text, read_paper, text_at
from handedtext.sides import figure_of
from papers_by_pattern import read_by_pattern
from samples import BIG_SIDES, MODES, NO_INTEGERS, nested, wrong_sides

TILL = ("side", "till", (0, 5, "half_up"), 2)
BOOK = ("side", "book", (50, 100, "half_even"), 0)
SHOP = ("set", "shop", ("till", "book"))
MAY = ("log", "may", "shop", (("till", "0.17"), ("book", "3")))
ENTRIES = [TILL, BOOK, SHOP, MAY]

TEXT = (
    "side till 5 half_up places 2\nside book 100 half_even places 0 at 50\nset shop till book\n"
    "log may shop\ntill 0.17\nbook 3\nend\n"
)

RESERVED = ("at", "down", "end", "log", "places", "set", "side", "up")

NAMES = ("a", "z", "ab", "abcdefgh", "zzzzzzzz", "ends", "sides", "half", "upp", "a" * 8)

NO_NAMES = RESERVED + (
    "", "abcdefghi", "a" * 9, "a" * 2000, "A", "aB", "a1", "1", "a_b", "_", "a-b", "a b", " a", "a ", "a\t", "a\n",
    "\n",
    "half_up", ".", "a.b", None, True, 0, 1, ("a",), ["a"], {"a": "a"}, (), [], {}, nested(50),
)


def log_entries(*lines):
    """Return entries with a log that has these lines."""
    return [TILL, BOOK, ("side", "far", (0, 1, "up"), 1), SHOP, ("log", "may", "shop", tuple(lines))]


def listed_and_not(entries):
    """Return entries in which lists stand in the place of one tuple each."""
    found = []
    for number, entry in enumerate(entries):
        found.append(entries[:number] + [list(entry)] + entries[number + 1:])
        for at, part in enumerate(entry):
            if isinstance(part, tuple):
                turned = entry[:at] + (list(part),) + entry[at + 1:]
                found.append(entries[:number] + [turned] + entries[number + 1:])
                if part and isinstance(part[0], tuple):
                    turned = entry[:at] + ((list(part[0]), *part[1:]),) + entry[at + 1:]
                    found.append(entries[:number] + [turned] + entries[number + 1:])
    return found


def wrong_entries():
    """Return things that are no entries."""
    wrong = [thing for thing in NO_INTEGERS if thing != []]
    wrong.extend([0, 1, tuple(ENTRIES), {0: TILL}, TILL, "side a", [ENTRIES]])
    wrong.extend([thing] for thing in list(NO_INTEGERS) + [0, 1, "side till 5 half_up places 2", [], (), {}])
    wrong.extend(listed_and_not(ENTRIES))
    for number, entry in enumerate(ENTRIES):
        for changed in (entry[:-1], entry + (0,), entry + (None,), ("word",) + entry[1:], entry[1:],
                        (None,) + entry[1:],
                        (["side"],) + entry[1:], entry[:1], (entry,), entry[:2], ("Side",) + entry[1:]):
            wrong.append(ENTRIES[:number] + [changed] + ENTRIES[number + 1:])
        for name in NO_NAMES:
            wrong.append(ENTRIES[:number] + [(entry[0], name) + entry[2:]] + ENTRIES[number + 1:])
        for other in ENTRIES[:number]:
            wrong.append(ENTRIES[:number] + [(entry[0], other[1]) + entry[2:]] + ENTRIES[number + 1:])
            wrong.append(ENTRIES[:number] + [entry, (*other[:1], entry[1], *other[2:])] + ENTRIES[number + 1:])
    for thing in wrong_sides():
        wrong.append([("side", "a", thing, 2)])
    for places in list(NO_INTEGERS) + [-1, 61, 62, 10 ** 199]:
        wrong.append([("side", "a", (0, 5, "up"), places)])
    for names in ((), ("till",) * 5, ("shop",), ("till", "shop"), ("may",), ("late",), ("till", None),
                  ("till", ["till"]),
                  (True,), (0,), ("till", ""), "till", None, ["till"], (("till",),), ({},)):
        wrong.append([TILL, BOOK, SHOP, MAY, ("set", "other", names), ("side", "late", (0, 1, "up"), 0)])
    for group in ("till", "may", "later", "", None, True, ["shop"], ("shop",), {}, 0):
        wrong.append([TILL, BOOK, SHOP, MAY, ("log", "june", group, ()), ("set", "later", ("till",))])
    for line in (
            ("till", "0.1"), ("till", "0.170"), ("till", "17"), ("till", ".17"), ("till", "+0.17"), ("till", " 0.17"),
            ("till", "0.17 "), ("till", "-0.00"), ("till", "1,000.00"), ("till", "00.17"), ("till", ""),
            ("till", "0.1a"),
            ("till", 17), ("till", None), ("till", True), ("till", ["0.17"]), ("till", ("0.17",)), ("book", "3.0"),
            ("book", "-0"), ("book", "03"), ("book", "1,000"), ("book", 3), ("far", "0.1"), ("shop", "3"), ("may", "3"),
            ("none", "3"), (None, "3"), (["book"], "3"), ("book",), ("book", "3", "3"), ["book", "3"], "book 3", None,
            3,
            (), ("book", "3\n"), ("book", "\t3")):
        wrong.append(log_entries(line))
        wrong.append(log_entries(("book", "3"), line))
    wrong.append(log_entries(*[("book", "3")] * 51))
    wrong.append(log_entries(*[("book", "3")] * 1000))
    return wrong


class PaperTextTest(unittest.TestCase):

    def test_text(self):
        for entries, text in (
                ([], ""), (ENTRIES, TEXT), ([TILL], "side till 5 half_up places 2\n"),
                ([("side", "a", (-3, 1, "down"), 60)], "side a 1 down places 60 at -3\n"),
                ([("side", "a", (10 ** 40, 10 ** 30, "half_even"), 0)],
                 f"side a {10 ** 30} half_even places 0 at {10 ** 40}\n"),
                ([("side", "a", (-10 ** 40, 1, "up"), 0)], f"side a 1 up places 0 at {-10 ** 40}\n"),
                ([TILL, ("set", "x", ("till",) * 4)], "side till 5 half_up places 2\nset x till till till till\n"),
                ([TILL, ("set", "x", ("till",)), ("log", "y", "x", ())],
                 "side till 5 half_up places 2\nset x till\nlog y x\nend\n")):
            self.assertEqual(paper_text(entries), text)
            self.assertEqual(read_paper(text), entries)
        self.assertEqual(paper_text(entries=ENTRIES), TEXT)

    def test_names(self):
        for name in NAMES:
            self.assertEqual(paper_text([("side", name, (0, 1, "up"), 0)]), f"side {name} 1 up places 0\n")
            entries = [("side", "x", (0, 1, "up"), 0), ("set", name, ("x",)), ("log", "y", name, (("x", "5"),))]
            self.assertEqual(paper_text(entries), f"side x 1 up places 0\nset {name} x\nlog y {name}\nx 5\nend\n")
        for name in NO_NAMES:
            for entry in (("side", name, (0, 1, "up"), 0), ("set", name, ("till",)), ("log", name, "shop", ())):
                with self.assertRaises(InvalidEntries, msg=repr(name)[:80]):
                    paper_text([TILL, BOOK, SHOP, entry])

    def test_sides_of_all_kinds(self):
        for number, side in enumerate(BIG_SIDES):
            entries = [("side", "a", side, number % 61)]
            self.assertEqual(read_paper(paper_text(entries)), entries)
            self.assertEqual(" at " in paper_text(entries), side[0] != 0)

    def test_fifty_lines_and_one_more(self):
        for many in (0, 1, 49, 50):
            entries = log_entries(*[("till", text_of(figure, 2)) for figure in range(-20, many - 20)])
            self.assertEqual(paper_text(entries).count("\n"), 6 + many)
            self.assertEqual(read_paper(paper_text(entries)), entries)
            self.assertEqual(len(log_of(entries, "may")[1]), many)
        with self.assertRaises(InvalidEntries):
            paper_text(log_entries(*[("till", "0.00")] * 51))

    def test_places(self):
        for places in (0, 1, 60):
            for figure in (0, 7, -7, 10 ** 61, -10 ** 61 - 1, 10 ** 1900):
                side = ("side", "a", (3, 7, "up"), places)
                entries = [side, ("set", "b", ("a",)), ("log", "c", "b", (("a", text_of(figure, places)),))]
                self.assertEqual(log_of(entries, "c"), ([(3, 7, "up")], [3 + 7 * figure]))
                self.assertEqual(read_paper(paper_text(entries)), entries)
        with self.assertRaises(InvalidEntries):
            paper_text([("side", "a", (3, 7, "up"), 61)])

    def test_invalid_entries(self):
        for thing in wrong_entries():
            kept = copy.deepcopy(thing)
            for name in ("may", "none", None, ["may"]):
                with self.assertRaises(InvalidEntries, msg=repr(thing)[:200]):
                    log_of(thing, name)
                with self.assertRaises(InvalidEntries, msg=repr(thing)[:200]):
                    text_at(thing, name, None)
            with self.assertRaises(InvalidEntries, msg=repr(thing)[:200]):
                paper_text(thing)
            self.assertEqual(thing, kept)


class LogsAndTextsTest(unittest.TestCase):

    def test_log_of(self):
        self.assertEqual(log_of(ENTRIES, "may"), ([(0, 5, "half_up"), (50, 100, "half_even")], [85, 350]))
        self.assertEqual(log_of(name="may", entries=ENTRIES), ([(0, 5, "half_up"), (50, 100, "half_even")], [85, 350]))
        twice = [TILL, BOOK, ("set", "x", ("book", "till", "book")),
                 ("log", "y", "x", (("book", "-7"), ("till", "-0.01")))]
        book, till = BOOK[2], TILL[2]
        self.assertEqual(log_of(twice, "y"), ([book, till, book], [-650, -5]))
        self.assertEqual(log_of([TILL, ("set", "x", ("till",)), ("log", "y", "x", ())], "y"), ([till], []))

    def test_text_at(self):
        for name, value, text in (
                ("till", 87, "0.17"), ("till", 88, "0.18"), ("till", -87, "-0.17"), ("till", 2, "0.00"),
                ("book", 50, "0"),
                ("book", 100, "0"), ("book", 200, "2"), ("book", -1000, "-10"),
                ("till", 10 ** 199, text_of(2 * 10 ** 198, 2))):
            self.assertEqual(text_at(ENTRIES, name, value), text, (name, value))
        self.assertEqual(text_at(value=87, name="till", entries=ENTRIES), "0.17")
        for number, side in enumerate(BIG_SIDES):
            places = number % 61
            value = 7 ** (number % 200) - 10 ** 40
            self.assertEqual(text_at([("side", "a", side, places)], "a", value),
                             text_of(figure_of(side, value), places))

    def test_unknown_names_go_ahead_of_values(self):
        for name in NO_NAMES + ("till", "book", "shop", "none", "mayo"):
            with self.assertRaises(UnknownName, msg=repr(name)[:80]):
                log_of(ENTRIES, name)
        for name in NO_NAMES + ("may", "shop", "none", "tills"):
            for value in (0, None, True):
                with self.assertRaises(UnknownName, msg=repr(name)[:80]):
                    text_at(ENTRIES, name, value)
        for thing in NO_INTEGERS:
            with self.assertRaises(InvalidValue):
                text_at(ENTRIES, "till", thing)
        for name in ("may", None, []):
            with self.assertRaises(UnknownName):
                log_of([], name)
            with self.assertRaises(UnknownName):
                text_at([], name, 0)

    def test_new_lists_and_arguments_stay(self):
        entries = list(ENTRIES)
        sides, seen = log_of(entries, "may")
        sides.append(7)
        seen.append(7)
        paper_text(entries)
        text_at(entries, "till", 5)
        self.assertEqual(entries, ENTRIES)
        self.assertEqual(log_of(entries, "may"), ([(0, 5, "half_up"), (50, 100, "half_even")], [85, 350]))


class ReadPaperTest(unittest.TestCase):

    def check_wrong(self, text, line, reason):
        """Check that a text is wrong in just this way."""
        with self.assertRaises(InvalidLine, msg=repr(text)) as caught:
            read_paper(text)
        self.assertEqual((caught.exception.line, caught.exception.reason), (line, reason), repr(text))
        self.assertEqual(read_by_pattern(text), ("wrong", line, reason))

    def check_right(self, text, entries):
        """Check the entries of a text."""
        self.assertEqual(read_paper(text), entries, repr(text))
        self.assertEqual(read_by_pattern(text), ("entries", entries))

    def test_entries(self):
        self.check_right(TEXT, ENTRIES)
        self.assertEqual(read_paper(text=TEXT), ENTRIES)
        for text in ("", "\n", "\n\n\n", " ", "   \n  \n ", " \n"):
            self.check_right(text, [])

    def test_blanks_and_lines_without_words(self):
        self.check_right(TEXT[:-1], ENTRIES)
        self.check_right(TEXT + "\n\n", ENTRIES)
        self.check_right("\n" + TEXT.replace("\n", "\n\n   \n"), ENTRIES)
        self.check_right(TEXT.replace(" ", "   "), ENTRIES)
        self.check_right(TEXT.replace("\n", "  \n "), ENTRIES)
        self.check_right("    " + TEXT.replace("end\n", "  end   "), ENTRIES)

    def test_a_tab_is_a_sign_like_any_other(self):
        for text, line, reason in (
                ("\t", 0, "line"), ("\n\t\n", 1, "line"), (TEXT.replace("side till", "side\ttill"), 0, "line"),
                (TEXT.replace("set shop", "set\tshop"), 2, "line"),
                (TEXT.replace("till book", "till\tbook"), 2, "name"),
                (TEXT.replace("end", "end\t"), 6, "line"), (TEXT.replace("end", "\tend"), 6, "line"),
                (TEXT.replace("0.17", "0.17\t"), 4, "value"), (TEXT.replace("till 0.17", "\ttill 0.17"), 4, "name"),
                (TEXT.replace("till 0.17", "till\t0.17"), 4, "line"),
                (TEXT.replace("half_up", "half_up\t"), 0, "value"),
                (TEXT.replace("places 2", "places 2\t"), 0, "line"),
                (TEXT.replace("places 2", "places 2 \t"), 0, "line")):
            self.check_wrong(text, line, reason)

    def test_wrong_lines(self):
        for line in (
                "x", "sides a 5 up places 0", "Side a 5 up places 0", "side", "side a", "side a 5", "side a 5 up",
                "side a 5 up places", "side a 5 up place 0", "side a 5 up places 0 0", "side a 5 up places 0 at",
                "side a 5 up places 0 at 5 5", "side a 5 up places 0 by 5", "side a 5 up 0", "side a up 5 places 0",
                "side a 5 up places 0 at 0", "side a 5 up places 0 at -0", "side a 5 up places 0 at 05",
                "side a 05 up places 0", "side a 5 up places 00", "side a +5 up places 0", "side a 5.0 up places 0",
                "side a -0 up places 0", "side a 5 up places -0", "side a - up places 0", "side a --5 up places 0",
                "side a 5- up places 0", "side a 1,000 up places 0", "side a 5 up places x", "side a x up places 0",
                "side a 5 up places 0 at x", "side a 5 up places 0 at -", "side a 5 up places 0 at 5 at 5",
                f"side a {10 ** 41} up places 0", f"side a {-10 ** 41} up places 0", f"side a 5 up places {10 ** 41}",
                f"side a 5 up places 0 at {10 ** 41}", f"side a 5 up places 0 at {-10 ** 41}", "side a 1" + "0" * 1990,
                "set", "set a", "Set a till", "log", "log a", "log a shop 5", "log a shop shop", "Log a shop", "end",
                "end end", "till 0.17", "at", "places 5", "side side", "set set"):
            self.check_wrong(line, 0, "line")
            self.check_wrong(TEXT + line, 7, "line")
            self.check_wrong("\n \n" + TEXT + "\n" + line + "\n" + line + "\n", 10, "line")

    def test_wrong_lines_within_a_log(self):
        for line in ("x", "till", "till 0.17 0.17", "till 0 . 17", "end end end", "log june shop", "set x till",
                     "side a 5 up places 0", "\t", "END"):
            self.check_wrong(TEXT.replace("till 0.17", line), 4, "line")
            self.check_wrong(TEXT.replace("book 3", line), 5, "line")

    def test_wrong_names(self):
        for line in (
                "side till 5 up places 0", "side shop 5 up places 0", "side may 5 up places 0",
                "side side 5 up places 0",
                "side at 5 up places 0", "side A 5 up places 0", "side abcdefghi 5 up places 0",
                "side a1 5 up places 0",
                "side 5 5 up places 0", "side end 0 odd places 99 at 5", f"side till {10 ** 41 - 1} odd places -5",
                "set till book", "set shop till", "set may till", "set set till", "set up till", "set x none",
                "set x shop", "set x may", "set x till shop", "set x x", "set x till till till till none", "set x end",
                "set till till till till till till", "log till shop", "log shop shop", "log may shop", "log log shop",
                "log x till", "log x none", "log x may", "log x x", "log end shop", "log place7 shop", "log x end"):
            self.check_wrong(TEXT + line, 7, "name")
            self.check_wrong(TEXT + "\n\n" + line + "\nend", 9, "name")
        for line in ("shop 3", "may 3", "none 3", "end 3", "end end", "till0 3", "far 0.1", "side 5"):
            text = "side far 1 up places 1\n" + TEXT
            self.check_wrong(text.replace("book 3", line), 6, "name")
            self.check_wrong(text.replace("till 0.17", line), 5, "name")

    def test_wrong_values(self):
        for line in (
                "side a 5 odd places 0", "side a 5 UP places 0", "side a 5 side places 0", "side a 0 up places 0",
                "side a -5 up places 0", f"side a {10 ** 30 + 1} up places 0", f"side a {10 ** 41 - 1} up places 0",
                "side a 5 up places 61", "side a 5 up places -1", f"side a 5 up places {10 ** 41 - 1}",
                f"side a 5 up places 0 at {10 ** 40 + 1}", f"side a 5 up places 0 at {-10 ** 40 - 1}",
                f"side a 5 up places 0 at {1 - 10 ** 41}", "side a 5 5 places 0", "side a 5 half_up, places 0",
                "set x till till till till till", "set x" + " book" * 1000):
            self.check_wrong(TEXT + line, 7, "value")
        for text in ("0.1", "0.170", "17", ".17", "+0.17", "-0.00", "1,000.00", "00.17", "x", "0.1a", "0,17", "end"):
            self.check_wrong(TEXT.replace("0.17", text), 4, "value")
        for text in ("3.0", "-0", "03", "1,000", "x", "3.", "--3", "end", "+3"):
            self.check_wrong(TEXT.replace("book 3", "book " + text), 5, "value")

    def test_right_at_the_edges(self):
        for line, entry in (
                ("side a 1 up places 0", ("side", "a", (0, 1, "up"), 0)),
                (f"side a {10 ** 30} up places 60 at {10 ** 40}", ("side", "a", (10 ** 40, 10 ** 30, "up"), 60)),
                (f"side a 7 half_even places 9 at {-10 ** 40}", ("side", "a", (-10 ** 40, 7, "half_even"), 9)),
                ("set a till", ("set", "a", ("till",))),
                ("set a till book till till", ("set", "a", ("till", "book", "till", "till"))),
                ("log a shop\nend", ("log", "a", "shop", ())),
                ("log a shop\ntill -0.01\nend", ("log", "a", "shop", (("till", "-0.01"),))),
                ("log abcdefgh shop\nbook 0\nend", ("log", "abcdefgh", "shop", (("book", "0"),)))):
            self.check_right(TEXT + line, ENTRIES + [entry])

    def test_a_text_that_ends_within_a_log(self):
        cut = TEXT[:-len("end\n")]
        self.check_wrong(cut, 7, "line")
        self.check_wrong(cut[:-1], 6, "line")
        self.check_wrong(cut + "\n\n", 9, "line")
        self.check_wrong(cut + "\n  ", 8, "line")
        self.check_wrong(TEXT[:TEXT.index("till 0.17")], 5, "line")
        self.check_wrong(TEXT[:TEXT.index("till 0.17") - 1], 4, "line")
        self.check_wrong(cut + "book 3\n" * 60, 67, "line")
        self.check_wrong(cut + "book", 6, "line")

    def test_fifty_lines_of_a_log_and_one_more(self):
        head = TEXT[:TEXT.index("till 0.17")]
        for many in (0, 1, 50):
            self.check_right(head + "book 3\n" * many + "end\n",
                             ENTRIES[:3] + [("log", "may", "shop", (("book", "3"),) * many)])
        for many in (51, 52, 100):
            self.check_wrong(head + "book 3\n" * many + "end\n", 4 + many, "value")
            self.check_wrong(head + "book 3\n\n" * many + "end", 4 + 2 * many, "value")
            self.check_wrong(head + "book 3\n" * many + "end end\n", 4 + many, "name")
            self.check_wrong(head + "book 3\n" * many + "book x\nend\n", 4 + many, "value")
            self.check_wrong(head + "book 3\n" * many + "book\nend\n", 4 + many, "line")
            self.check_wrong(head + "book 3\n" * many, 5 + many, "line")

    def test_no_string(self):
        for thing in NO_INTEGERS + (0, 1, ENTRIES, [TEXT], (TEXT,), {TEXT: TEXT}):
            if isinstance(thing, str):
                continue
            with self.assertRaises(InvalidLine) as caught:
                read_paper(thing)
            self.assertEqual((caught.exception.line, caught.exception.reason), (0, "text"))

    def test_long_texts(self):
        text = "".join(f"side {name} 1 up places 0\n" for name in (
            chr(97 + number // 26) + chr(97 + number % 26) for number in range(600)) if name not in ("at", "up"))
        self.assertGreater(len(text), 9000)
        self.assertEqual(paper_text(read_paper(text)), text)
        for thing in ("9" * 2000, "a" * 10000, "-" * 10000, "side a " + "9" * 9900 + " up places 0", " " * 10000,
                      "\n" * 10000):
            kind, *answer = read_by_pattern(thing)
            if kind == "entries":
                self.check_right(thing, *answer)
            else:
                self.check_wrong(thing, *answer)

    def test_changed_texts_against_patterns(self):
        source = random.Random(80)
        words = ("till", "book", "shop", "may", "side", "set", "log", "end", "at", "places", "up", "half_even", "0",
                 "5", "-5",
                 "0.17", "3", "61", "x", "a\tb", "-0", "05", str(10 ** 30), str(10 ** 41), "", " ", "\n", "\nend\n")
        kinds = collections.Counter()
        for _ in range(6000):
            parts = TEXT.replace("\n", " \n ").split(" ")
            for _ in range(source.randint(1, 3)):
                at = source.randrange(len(parts))
                way = source.randrange(3)
                parts[at:at + (way > 0)] = [source.choice(words)] if way < 2 else []
            text = " ".join(parts)
            answer = read_by_pattern(text)
            if answer[0] == "entries":
                self.assertEqual(read_paper(text), answer[1], repr(text))
                self.assertEqual(read_paper(paper_text(answer[1])), answer[1])
            else:
                with self.assertRaises(InvalidLine, msg=repr(text)) as caught:
                    read_paper(text)
                self.assertEqual(("wrong", caught.exception.line, caught.exception.reason), answer, repr(text))
            kinds[answer[-1] if answer[0] == "wrong" else None] += 1
        self.assertEqual(set(kinds), {None, "line", "name", "value"})
        self.assertGreater(min(kinds.values()), 100)

    def test_what_is_written_is_read_as_new_entries(self):
        source = random.Random(81)
        for _ in range(100):
            sides = []
            for name in ("a", "bc", "xyz"):
                side = source.randint(-9, 9), source.randint(1, 99), source.choice(MODES)
                sides.append(("side", name, side, source.randint(0, 60)))
            names = source.choices(("a", "bc", "xyz"), k=source.randint(1, 4))
            entries = sides + [("set", "s", tuple(names))]
            lines = []
            for _ in range(source.randint(0, 50)):
                name = source.choice(entries[3][2])
                places = [side[3] for side in sides if side[1] == name][0]
                lines.append((name, text_of(source.randint(-10 ** 9, 10 ** 9), places)))
            entries.append(("log", "l", "s", tuple(lines)))
            told = read_paper(paper_text(entries))
            self.assertEqual(told, entries)
            told.append(7)
            self.assertEqual(read_paper(paper_text(entries)), entries)


if __name__ == "__main__":
    unittest.main()
