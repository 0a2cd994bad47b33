"""Points [14] and [3](h): texts of tables, heaps and steps."""

import copy
import unittest

from shadebarriers.errors import BadText
from shadebarriers.heaps import is_heap
from shadebarriers.marks import all_marks, is_table, known_table
from shadebarriers.steps import is_step
from shadebarriers.texts import format_heap, format_steps, format_table, parse_heap, parse_steps, parse_table
from tests.bent import bent, wrong_row
from tests.thrown import picks, thrown_heap, thrown_table
from tests.values import ANY, same

EMPTY = ((), False)
FULL = (all_marks(), True)
KINDS = {
    "table": (parse_table, format_table), "heap": (parse_heap, format_heap), "steps": (parse_steps, format_steps),
}
HEAP_TEXT = "width 2\nobject - 3\nobject 0 0\nobject 1 -\nobject - -\nthread 0 2\nthread\nthread 1"
STEPS_TEXT = "visit 0\nload 1 2 3\nstore 0 1 2 -\nstore 0 1 2 3\nnew 0\ndrop 12 999999999\nscan 4"


def thrown_steps(seed, many):
    source = picks(seed)
    forms = [("drop", 2), ("load", 3), ("new", 1), ("scan", 1), ("store", 4), ("visit", 1)]
    steps = []
    for _ in range(many):
        word, numbers = forms[next(source) % 6]
        step = (word, *[next(source) % 10 ** (next(source) % 10) for _ in range(numbers)])
        if word == "store" and next(source) % 3 == 0:
            step = step[:4] + (None,)
        steps.append(step)
    return tuple(steps)


def written():
    """Pairs of a kind and a value."""
    found = [("table", table) for table in (EMPTY, ((), True), FULL, known_table("old"))]
    found += [("table", thrown_table(seed)) for seed in range(20)]
    found += [("heap", thrown_heap(seed, seed % 4 + 1, seed % 13, seed % 4 + 1)) for seed in range(40)]
    found += [("heap", (4, (), ((),) * 4)), ("heap", (1, (), ((),)))]
    found += [("steps", thrown_steps(seed, seed % 7)) for seed in range(40)]
    return found


class Written(unittest.TestCase):
    def test_tables(self):
        self.assertEqual(format_table(EMPTY), "rescan no")
        self.assertEqual(format_table(((), True)), "rescan yes")
        marks = (("load", "scanned", "grey"), ("new", "scanned"), ("store", "scanned", "black", "none", "white", "new"))
        expected = "rescan yes\nload scanned grey\nnew scanned\nstore scanned black none white new"
        self.assertEqual(format_table((marks, True)), expected)
        self.assertEqual(len(format_table(FULL).split("\n")), 121)

    def test_heaps(self):
        heap = (2, ((None, 3), (0, 0), (1, None), (None, None)), ((0, 2), (), (1,)))
        self.assertEqual(format_heap(heap), HEAP_TEXT)
        self.assertEqual(format_heap((3, (), ((), ()))), "width 3\nthread\nthread")
        self.assertEqual(format_heap((1, ((11,),) * 12, ((10, 11),))), "width 1" + "\nobject 11" * 12 + "\nthread 10 11")

    def test_steps(self):
        steps = (
            ("visit", 0), ("load", 1, 2, 3), ("store", 0, 1, 2, None), ("store", 0, 1, 2, 3), ("new", 0),
            ("drop", 12, 999999999), ("scan", 4),
        )
        self.assertEqual(format_steps(steps), STEPS_TEXT)
        self.assertEqual(format_steps(()), "")
        self.assertEqual(format_steps((("scan", 0),)), "scan 0")
        # Longer numbers than a text of steps may have are still written.
        self.assertEqual(format_steps((("scan", 10**9),)), "scan 1000000000")

    def test_read_back(self):
        for kind, value in written():
            parse, write = KINDS[kind]
            before = copy.deepcopy(value)
            text = write(value)
            self.assertIsInstance(text, str)
            self.assertTrue(same(parse(text), value))
            self.assertTrue(same(parse(text=text), value))
            self.assertEqual(write(**{kind: value}), text)
            self.assertTrue(same(before, value))
            self.assertIsNone(wrong_row(kind, text))

    def test_what_is_read_is_written_as_it_was(self):
        for text in (HEAP_TEXT, "width 1\nthread", "width 1" + "\nobject 11" * 12 + "\nthread 10 11" * 4):
            self.assertEqual(format_heap(parse_heap(text)), text)
        self.assertEqual(format_steps(parse_steps(STEPS_TEXT)), STEPS_TEXT)
        for text in ("rescan no", "rescan yes\nnew scanned\nnew unscanned"):
            self.assertEqual(format_table(parse_table(text)), text)


class Rows(unittest.TestCase):
    def check(self, parse, text, row):
        before = copy.deepcopy(text)
        if row is None:
            parse(text)
            return
        with self.assertRaises(BadText) as caught:
            parse(text)
        self.assertTrue(same(caught.exception.row, row), text)
        self.assertTrue(same(before, text))

    def test_any_value_that_is_no_string(self):
        for parse, _ in KINDS.values():
            for value in ANY + [["rescan no"], ("width 1", "thread"), {"visit": 0}]:
                if not isinstance(value, str):
                    self.check(parse, value, 0)
                    with self.assertRaises(BadText):
                        parse(text=value)

    def test_strings_of_any_kind(self):
        for value in ANY + ["-", "/", "visit 0 / visit 1", "\n", "\n\n", " ", "\t", "rescan", "width", "None"]:
            if isinstance(value, str):
                self.check(parse_table, value, 0)
                self.check(parse_heap, value, 0)
                self.check(parse_steps, value, wrong_row("steps", value))

    def test_the_empty_string(self):
        self.check(parse_table, "", 0)
        self.check(parse_heap, "", 0)
        self.assertEqual(parse_steps(""), ())

    def test_an_empty_first_row_of_steps(self):
        for text in ("\n", "\n\n", "\nvisit 0", "\nx\nvisit 0", "\n ", "\n\nvisit 0"):
            self.check(parse_steps, text, 1)
        self.check(parse_steps, "visit 0\n", 1)
        self.check(parse_steps, "visit 0\n\nvisit 0", 1)
        self.check(parse_steps, "visit 0\nvisit 0\n", 2)
        self.check(parse_steps, " \nvisit 0", 0)

    def test_tables(self):
        for text, row in [
            ("rescan", 0), ("rescan yes no", 0), ("rescan maybe", 0), ("Rescan yes", 0), ("rescan  yes", 0),
            (" rescan yes", 0), ("rescan yes ", 0), ("rescan yes\n", 1), ("rescan True", 0), ("new scanned", 0),
            ("rescan no\nnew scanned\nnew scanned", 2), ("rescan no\nnew unscanned\nnew scanned", 2),
            ("rescan no\nnew scanned\nload scanned grey", 2), ("rescan no\nnew scanned\nnew unscanned", None),
            ("rescan no\nnew  scanned", 1), ("rescan no\nnew scanned ", 1), ("rescan no\n new scanned", 1),
            ("rescan no\nnew black", 1), ("rescan no\nnew", 1), ("rescan no\nnew scanned grey", 1),
            ("rescan no\nstore scanned grey none white holder", 1), ("rescan no\nrescan no", 1),
            ("rescan no\nstore scanned grey none white new\nstore scanned grey black white new", 2),
            ("rescan no\n\nnew scanned", 1), ("rescan no\nnew scanned\n\n", 2), ("\nrescan no", 0),
            ("rescan no\nnew scanned\nx\nnew scanned", 2), ("rescan no\nload scanned none", 1),
        ]:
            self.check(parse_table, text, row)

    def test_heaps(self):
        for text, row in [
            ("width 1", 1), ("width 4\nobject - - - -", 2), ("width 1\nthread", None), ("width 0\nthread", 0),
            ("width 5\nthread", 0), ("width 01\nthread", 0), ("width +1\nthread", 0), ("width\nthread", 0),
            ("width 1 1\nthread", 0), ("width -\nthread", 0), ("width 10\nthread", 0), (" width 1\nthread", 0),
            ("width  1\nthread", 0), ("width 1 \nthread", 0), ("thread", 0), ("width 1\nthread\n", 2),
            ("width 1\n\nthread", 1), ("\nwidth 1\nthread", 0), ("width 1\nobject\nthread", 1),
            ("width 1\nobject - -\nthread", 1), ("width 2\nobject -\nthread", 1), ("width 1\nobject -1\nthread", 1),
            ("width 1\nobject 00\nthread", 1), ("width 1\nobject +0\nthread", 1), ("width 1\nobject 01\nthread", 1),
            ("width 1\nobject  -\nthread", 1), ("width 1\nobject - \nthread", 1), ("width 1\nobject None\nthread", 1),
            # A slot may name an object whose row comes later, but not one whose row never comes.
            ("width 1\nobject 1\nobject -\nthread", None), ("width 1\nobject 1\nthread", 2),
            ("width 1\nobject 11\nobject 12\nthread", 2), ("width 1\nobject 11", 2), ("width 1\nobject 12", 1),
            ("width 1\nobject 11\nobject -\nthread 0", 3), ("width 1\nobject 1\nthread x", 2),
            ("width 1\nobject 1\nx", 2), ("width 1\nobject 1234567890\nthread", 1),
            ("width 1\nobject 2\nobject -\nobject 3\nthread", 4), ("width 1\nobject 3\nthread\nobject -", 2),
            ("width 1\nobject " + "1" * 5000, 1), ("width 1\nthread " + "1" * 5000, 1),
            ("width 1\nobject -\nthread\nobject -", 3), ("width 1\nobject -\nthread 1", 2),
            ("width 1\nobject -\nthread -", 2), ("width 1\nobject -\nthread 00", 2),
            ("width 1\nobject -\nobject -\nthread 0 1\nthread 1 0", 4), ("width 1\nobject -\nthread 0 0", 2),
            ("width 1\nobject -\nthread  0", 2), ("width 1\nobject -\nthread ", 2), ("width 1\nobject -\nthread 0 ", 2),
            ("width 1\nthread\nthread\nthread\nthread", None), ("width 1" + "\nthread" * 5, 5),
            ("width 1" + "\nobject -" * 12 + "\nthread 11", None), ("width 1" + "\nobject -" * 13 + "\nthread", 13),
            ("width 1" + "\nobject -" * 12, 13), ("width 1" + "\nobject -" * 11 + "\nthread 11", 12),
            ("width 1\nwidth 1\nthread", 1), ("width 1\nthread\nwidth 1", 2),
        ]:
            self.check(parse_heap, text, row)
            self.assertEqual(wrong_row("heap", text), row, text)

    def test_steps(self):
        for text, row in [
            ("visit", 0), ("visit 0 0", 0), ("visit -", 0), ("visit 00", 0), ("visit 01", 0), ("visit +1", 0),
            ("visit -1", 0), ("visit 999999999", None), ("visit 1000000000", 0), ("visit 0999999999", 0),
            ("visit  0", 0), ("visit 0 ", 0), (" visit 0", 0), ("Visit 0", 0), ("visit 0\nx\nvisit 0", 1),
            ("store 0 0 0 -", None), ("store 0 0 - 0", 0), ("store - 0 0 0", 0), ("store 0 0 0", 0),
            ("store 0 0 0 0 0", 0), ("load 0 0 0", None), ("load 0 0 -", 0), ("drop 0 -", 0), ("scan 0\nscan", 1),
            ("new 0\nnew 0\nnew 0", None), ("undo", 0), ("visit 0 / visit 1", 0), ("visit " + "9" * 5000, 0),
            ("visit 1_0", 0), ("visit 1.0", 0), ("visit\t0", 0),
        ]:
            self.check(parse_steps, text, row)
            self.assertEqual(wrong_row("steps", text), row, text)

    def test_bent_at_a_drawn_place(self):
        rows = {kind: set() for kind in KINDS}
        good = 0
        for seed, (kind, value) in enumerate(written()):
            parse, write = KINDS[kind]
            for turn in range(4):
                for text in bent(write(value), seed * 4 + turn):
                    row = wrong_row(kind, text)
                    self.check(parse, text, row)
                    rows[kind].add(row)
                    if row is None:
                        good += 1
                        self.assertEqual(write(parse(text)), text)
        for kind in KINDS:
            self.assertGreater(len(rows[kind]), 6)
        self.assertGreater(good, 100)

    def test_bent_twice(self):
        for seed, (kind, value) in enumerate(written()[::4]):
            parse, write = KINDS[kind]
            for once in bent(write(value), seed):
                for text in bent(once, seed + 1):
                    self.check(parse, text, wrong_row(kind, text))

    def test_what_is_read_is_one(self):
        tests = {"table": is_table, "heap": is_heap, "steps": lambda steps: all(is_step(step) for step in steps)}
        for seed, (kind, value) in enumerate(written()):
            parse, write = KINDS[kind]
            for text in bent(write(value), seed):
                if wrong_row(kind, text) is None:
                    self.assertIs(tests[kind](parse(text)), True)


if __name__ == "__main__":
    unittest.main()
