"""Points [15] and [3](h): the desk."""

import copy
import unittest

from shadebarriers import errors
from shadebarriers.desk import Desk
from shadebarriers.judging import fewest_steps, holds, shows_break
from shadebarriers.machine import Machine
from shadebarriers.marks import all_marks, joined, known_table
from shadebarriers.needless import needless
from shadebarriers.properties import PROPERTIES
from shadebarriers.runs import thread_steps
from shadebarriers.texts import format_heap, format_steps, format_table, parse_heap, parse_steps, parse_table
from tests.bent import bent, wrong_row
from tests.thrown import near_tables, picks, thrown_heap, thrown_table
from tests.values import ANY, same

EMPTY = ((), False)
HEAP = (1, ((1,), (None,)), ((0,),))
HEAP_LINE = "heap width 1 / object 1 / object - / thread 0"
MACHINE_LINES = ["do visit 0", "undo", "collect", "lost", "ended"]
PROPERTY_LINES = [f"{word} {name}" for word in ("holds", "fewest", "run", "needless") for name in PROPERTIES]
PLAIN_LINES = ["table", "rescan yes", "rescan no", "mark new scanned", "unmark new scanned"]


def in_one_line(text):
    return text.replace("\n", " / ")


def desk_with(table, heap=None):
    """A desk that has a table, and perhaps a machine on a heap with that table."""
    desk = Desk()
    for mark in table[0]:
        desk.say("mark " + " ".join(mark))
    desk.say("rescan yes" if table[1] else "rescan no")
    if heap is not None:
        desk.say("heap " + in_one_line(format_heap(heap)))
    return desk


def outcome(desk, line):
    """What a desk answers, or the name and the argument of its error."""
    try:
        return desk.say(line)
    except errors.ShadeError as error:
        return (type(error).__name__, vars(error))


def shown(desk):
    """What a desk shows of itself without being changed."""
    steps = []
    if outcome(desk, "lost") == ("NoMachine", {}):
        return desk.say("table"), None
    while True:
        step = outcome(desk, "undo")
        if step == ("NothingToUndo", {}):
            break
        steps.append(step)
    for step in reversed(steps):
        desk.say("do " + step)
    return desk.say("table"), (steps, desk.say("lost"), desk.say("ended"))


class Tables(unittest.TestCase):
    def test_at_first(self):
        self.assertEqual(Desk().say("table"), "rescan no")
        self.assertEqual(Desk().say(line="table"), "rescan no")

    def test_marks_and_rescans(self):
        source = picks(8)
        desk = Desk()
        table = EMPTY
        for _ in range(300):
            mark = all_marks()[next(source) % 12 * 10]
            choice = next(source) % 5
            if choice < 2:
                self.assertEqual(desk.say("mark " + " ".join(mark)), "done")
                table = joined(table, ((mark,), False))
            elif choice < 4:
                self.assertEqual(desk.say("unmark " + " ".join(mark)), "done")
                table = (tuple(other for other in table[0] if other != mark), table[1])
            else:
                rescans = next(source) % 2 == 1
                self.assertEqual(desk.say("rescan yes" if rescans else "rescan no"), "done")
                table = (table[0], rescans)
            self.assertEqual(desk.say("table"), in_one_line(format_table(table)))

    def test_twice_and_not_there(self):
        desk = Desk()
        for line, expected in [
            ("unmark new scanned", "rescan no"), ("mark new scanned", "rescan no / new scanned"),
            ("mark new scanned", "rescan no / new scanned"), ("rescan yes", "rescan yes / new scanned"),
            ("rescan yes", "rescan yes / new scanned"), ("unmark new unscanned", "rescan yes / new scanned"),
            ("unmark new scanned", "rescan yes"), ("rescan no", "rescan no"),
        ]:
            self.assertEqual(desk.say(line), "done")
            self.assertEqual(desk.say("table"), expected)

    def test_every_mark(self):
        desk = desk_with((all_marks(), True))
        self.assertEqual(parse_table(desk.say("table").replace(" / ", "\n")), (all_marks(), True))
        for mark in all_marks():
            self.assertEqual(desk.say("unmark " + " ".join(mark)), "done")
        self.assertEqual(desk.say("table"), "rescan yes")


class Properties(unittest.TestCase):
    def tables(self):
        found = [EMPTY, (all_marks(), True)] + [known_table(word) for word in ("value", "old", "both", "load")]
        found += [thrown_table(seed) for seed in range(6)]
        return found + [table for word in PROPERTIES for table in near_tables(word, 1)[:2]]

    def test_as_the_functions_answer(self):
        for table in self.tables():
            desk = desk_with(table)
            for word in PROPERTIES:
                is_held = holds(table, word)
                self.assertEqual(desk.say(f"holds {word}"), "yes" if is_held else "no")
                self.assertEqual(desk.say(f"fewest {word}"), "none" if is_held else str(fewest_steps(table, word)))
                if is_held:
                    self.assertEqual(desk.say(f"run {word}"), "none")
                    self.assertEqual(desk.say(f"needless {word}"), str(len(needless(table, word))))
                else:
                    self.check_run(table, word, desk.say(f"run {word}"))
                    self.assertEqual(outcome(desk, f"needless {word}"), ("Broken", {"word": word}))
            self.assertEqual(desk.say("table"), in_one_line(format_table(table)))

    def check_run(self, table, word, answer):
        heap_text, steps_text = answer.split(" | ")
        run = (parse_heap(heap_text.replace(" / ", "\n")), parse_steps(steps_text.replace(" / ", "\n")))
        self.assertIs(shows_break(table, word, run), True)
        self.assertEqual(thread_steps(run), fewest_steps(table, word))
        self.assertEqual(answer, in_one_line(format_heap(run[0])) + " | " + in_one_line(format_steps(run[1])))

    def test_a_run_can_be_done_on_the_desk(self):
        desk = desk_with(known_table("old"))
        heap_text, steps_text = desk.say("run safe").split(" | ")
        self.assertEqual(desk.say("heap " + heap_text), "done")
        self.assertEqual(desk.say("lost"), "0 1 2 3")
        for step in steps_text.split(" / "):
            self.assertEqual(desk.say("ended"), "no")
            self.assertEqual(desk.say("do " + step), "done")
        self.assertEqual(desk.say("ended"), "yes")
        self.assertNotEqual(desk.say("lost"), "none")


class Machines(unittest.TestCase):
    def test_as_a_machine(self):
        for seed in range(12):
            table = thrown_table(seed)
            heap = thrown_heap(seed, seed % 3 + 1, seed % 6, seed % 3 + 1)
            desk, machine = desk_with(table, heap), Machine(table, heap)
            source = picks(seed)
            for _ in range(80):
                self.assertEqual(desk.say("ended"), "yes" if machine.is_ended() else "no")
                self.assertEqual(desk.say("lost"), " ".join(str(number) for number in machine.lost()) or "none")
                choice = machine.possible()
                turn = next(source) % 16
                if turn < 11 and choice:
                    step = choice[next(source) % len(choice)]
                    machine.do(step)
                    self.assertEqual(desk.say("do " + format_steps((step,))), "done")
                elif turn < 15 and len(machine):
                    self.assertEqual(desk.say("undo"), format_steps((machine.undo(),)))
                elif turn == 15:
                    self.assertEqual(desk.say("collect"), str(machine.collect()))

    def test_answers(self):
        desk = Desk()
        for line, answer in [
            (HEAP_LINE, "done"), ("lost", "0 1"), ("ended", "no"), ("do visit 0", "done"), ("do load 0 0 0", "done"),
            ("do store 0 0 0 -", "done"), ("lost", "1"), ("collect", "1"), ("collect", "0"), ("ended", "yes"),
            ("lost", "1"), ("undo", "scan 0"), ("undo", "store 0 0 0 -"), ("collect", "2"), ("lost", "none"),
            ("undo", "scan 1"), ("undo", "scan 0"), ("undo", "load 0 0 0"), ("undo", "visit 0"),
        ]:
            self.assertEqual(desk.say(line), answer, line)
        self.assertEqual(outcome(desk, "undo"), ("NothingToUndo", {}))

    def test_errors_of_steps(self):
        desk = desk_with(EMPTY, HEAP)
        for row, error in [
            ("visit 1", ("NoThread", {"thread": 1})), ("load 0 2 0", ("NoObject", {"number": 2})),
            ("load 0 1 0", ("NotHeld", {"number": 1})), ("load 0 0 1", ("NoSlot", {"slot": 1})),
            ("store 0 0 0 1", ("NotHeld", {"number": 1})), ("scan 0", ("NotGrey", {"number": 0})),
            ("drop 0 999999999", ("NoObject", {"number": 999999999})), ("scan 2", ("NoObject", {"number": 2})),
        ]:
            before = shown(desk)
            self.assertEqual(outcome(desk, "do " + row), error)
            self.assertEqual(shown(desk), before)
        desk.say("do visit 0")
        self.assertEqual(outcome(desk, "do visit 0"), ("Visited", {"thread": 0}))
        desk.say("collect")
        self.assertEqual(outcome(desk, "do drop 0 0"), ("Ended", {}))
        full = desk_with(EMPTY, (1, ((None,),) * 12, ((), ())))
        self.assertEqual(outcome(full, "do new 0"), ("Full", {}))
        empty = desk_with(EMPTY, (1, ((None,),), ((0,),)))
        self.assertEqual(outcome(empty, "do load 0 0 0"), ("EmptySlot", {"slot": 0}))

    def test_goes_on_with_its_old_table(self):
        desk = desk_with(EMPTY, HEAP)
        desk.say("mark load scanned grey")
        desk.say("rescan yes")
        for line in ("do visit 0", "do load 0 0 0", "do store 0 0 0 -"):
            desk.say(line)
        self.assertEqual(desk.say("lost"), "1")
        self.assertEqual(outcome(desk, "do visit 0"), ("Visited", {"thread": 0}))
        self.assertEqual(desk.say("table"), "rescan yes / load scanned grey")
        # A new machine takes the new table.
        self.assertEqual(desk.say(HEAP_LINE), "done")
        for line in ("do visit 0", "do load 0 0 0", "do store 0 0 0 -", "do visit 0"):
            self.assertEqual(desk.say(line), "done")
        self.assertEqual(desk.say("lost"), "none")

    def test_a_new_machine_has_nothing_to_undo(self):
        desk = desk_with(EMPTY, HEAP)
        desk.say("collect")
        self.assertEqual(desk.say("heap width 1 / thread"), "done")
        self.assertEqual(outcome(desk, "undo"), ("NothingToUndo", {}))
        self.assertEqual(desk.say("lost"), "none")

    def test_no_machine(self):
        desk = Desk()
        for line in MACHINE_LINES:
            self.assertEqual(outcome(desk, line), ("NoMachine", {}))
        self.assertEqual(outcome(desk, "heap width 1"), ("BadText", {"row": 1}))
        for line in MACHINE_LINES:
            self.assertEqual(outcome(desk, line), ("NoMachine", {}))
        # What is no line comes ahead of the missing machine, which comes ahead of the errors of steps.
        self.assertEqual(outcome(desk, "do visit"), ("BadLine", {"line": "do visit"}))
        self.assertEqual(outcome(desk, "do visit 9"), ("NoMachine", {}))

    def test_desks_are_independent(self):
        one, other = Desk(), Desk()
        one.say("mark new scanned")
        one.say(HEAP_LINE)
        self.assertEqual(other.say("table"), "rescan no")
        self.assertEqual(outcome(other, "ended"), ("NoMachine", {}))


class Heaps(unittest.TestCase):
    def test_drawn_heaps(self):
        for seed in range(30):
            heap = thrown_heap(seed, seed % 4 + 1, seed % 13, seed % 4 + 1)
            desk = desk_with(EMPTY, heap)
            lost = Machine(EMPTY, heap).lost()
            self.assertEqual(desk.say("lost"), " ".join(str(number) for number in lost) or "none")

    def test_bent_texts(self):
        good = 0
        for seed in range(25):
            text = format_heap(thrown_heap(seed, seed % 4 + 1, seed % 7, seed % 3 + 1))
            for changed in bent(text, seed):
                desk = desk_with(EMPTY, HEAP)
                desk.say("do visit 0")
                line = in_one_line(changed)
                # A slash that was put in between blanks counts as the end of a row, too.
                row = wrong_row("heap", line.replace(" / ", "\n"))
                answer = outcome(desk, "heap " + line)
                if row is None:
                    good += 1
                    self.assertEqual(answer, "done")
                    self.assertEqual(outcome(desk, "undo"), ("NothingToUndo", {}))
                else:
                    self.assertTrue(same(answer, ("BadText", {"row": row})), changed)
                    self.assertEqual(desk.say("undo"), "visit 0")
        self.assertGreater(good, 20)

    def test_rows_apart_and_together(self):
        for text, row in [
            ("", 0), (" ", 0), ("width 1", 1), ("width 1 / ", 1), ("width 1 /thread", 0), ("width 1/ thread", 0),
            (" / width 1 / thread", 0), ("width 1 / thread / ", 2), ("width 1  / thread", 0), ("width 1 /  thread", 1),
            # From the left: behind the first one stands a slash and a blank.
            ("width 1 / / thread", 1), ("width 1 / thread / /", 2), ("width 1 / object 3 / thread", 2), ("/", 0),
            (" width 1 / thread", 0), ("width 1 / object - / thread 0 / object -", 3),
        ]:
            self.assertEqual(outcome(Desk(), "heap " + text), ("BadText", {"row": row}), text)


class WrongLines(unittest.TestCase):
    def lines(self):
        good = PLAIN_LINES + PROPERTY_LINES + MACHINE_LINES + [HEAP_LINE]
        found = ["", " ", "/", "heap", "do", "do ", "mark", "mark ", "unmark", "rescan", "rescan ", "holds", "holds ",
                 "collect 1", "undo 1", "undo visit 0", "table rescan no", "lost none", "ended yes", "machine", "say table",
                 "do collect", "do undo", "do visit 0 / visit 0", "do visit 00", "do visit +0", "do visit 1234567890",
                 "do store 0 0 - 0", "do visit -", "rescan maybe", "rescan yes no", "mark new black", "mark new",
                 "mark new scanned new unscanned", "mark rescan yes", "unmark store scanned grey none white holder",
                 "holds Safe", "holds value", "holds safe weak", "fewest none", "run both", "needless old", "count safe",
                 "holds safe\nholds weak", "heap width 1\nthread", "heap width 1 / thread\n", "heap \n", "do visit 0\n",
                 "table / table", "least safe", "mark load scanned none", "mark (new, scanned)", "has safe"]
        for line in good:
            found += [line + " ", " " + line, line + "\n", "\n" + line, line.upper(), line.capitalize(), line + "\t"]
            found += [line.replace(" ", "  ", 1), line.replace(" ", "\t", 1), line.replace(" ", "\n", 1), line + " x"]
            found += [line.replace(" ", "", 1), line.split(" ")[0] + " " + line]
        for line in PROPERTY_LINES:
            found += [line.rsplit(" ", 1)[0] + " " + other for other in ("saf", "safer", "grey", "Weak", "()", "1")]
        # A text behind heap and a blank may be any.
        return [line for line in found if line not in good and not (line.startswith("heap ") and "\n" not in line)]

    def test_of_no_form(self):
        lines = self.lines()
        self.assertGreater(len(lines), 300)
        desk, bare = desk_with(known_table("load"), HEAP), Desk()
        desk.say("do visit 0")
        before = shown(desk)
        for line in lines:
            for one in (desk, bare):
                with self.assertRaises(errors.BadLine) as caught:
                    one.say(line)
                self.assertIs(caught.exception.line, line)
        self.assertEqual(shown(desk), before)
        self.assertEqual(shown(bare), ("rescan no", None))

    def test_any_value(self):
        desk = desk_with(EMPTY, HEAP)
        before = shown(desk)
        for value in ANY + [["table"], ("table",), {"table": None}, ["mark", "new", "scanned"]]:
            kept = copy.deepcopy(value)
            with self.assertRaises(errors.BadLine) as caught:
                desk.say(value)
            self.assertIs(caught.exception.line, value)
            with self.assertRaises(errors.BadLine):
                desk.say(line=value)
            self.assertTrue(same(kept, value))
        self.assertEqual(shown(desk), before)

    def test_a_line_that_raises_changes_nothing(self):
        desk = desk_with(thrown_table(3, 5), HEAP)
        desk.say("do visit 0")
        before = shown(desk)
        for line in ["needless safe", "needless clean", "heap ", "heap width 1 / object 1 / thread", "do visit 9", "do scan 1"]:
            self.assertIsInstance(outcome(desk, line), tuple, line)
            self.assertEqual(shown(desk), before)

    def test_every_answer_is_a_string(self):
        desk = desk_with(known_table("both"), HEAP)
        for line in PLAIN_LINES + PROPERTY_LINES + ["do visit 0", "collect", "lost", "ended", "undo", HEAP_LINE]:
            answer = outcome(desk, line)
            if not isinstance(answer, tuple):
                self.assertIsInstance(answer, str)
                self.assertNotIn("\n", answer)


if __name__ == "__main__":
    unittest.main()
