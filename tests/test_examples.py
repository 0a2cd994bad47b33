"""The examples of the document, as they stand there: points [4] to [15]; and those of the README."""

import doctest
import pathlib
import unittest

from shadebarriers.errors import EmptySlot

README = pathlib.Path(__file__).resolve().parent.parent / "README.md"

HEAPS = """
>>> from shadebarriers.heaps import is_heap, reachable
>>> HEAP = (1, ((1,), (None,), (0,)), ((0,), ()))
>>> [is_heap(HEAP), reachable(HEAP), is_heap((1, ((3,),), ((0,),)))]
[True, (0, 1), False]
"""

MARKS = """
>>> from shadebarriers.marks import all_marks, is_mark, joined, known_table, shaded
>>> T = ((('load', 'scanned', 'grey'), ('store', 'scanned', 'black', 'none', 'white', 'holder')), False)
>>> [len(all_marks()), is_mark(('store', 'scanned', 'grey', 'none', 'white', 'holder')), shaded(T, 'scanned', 'black', 'none', 'white')]
[120, False, ('holder',)]
>>> [len(known_table('old')[0]), known_table('value')[1], joined(T, ((('new', 'scanned'),), True))[1], joined()]
[26, True, True, ((), False)]
"""

STATES = """
>>> from shadebarriers.states import covered, is_ended, lost, start
>>> STATE = (1, ((1,), (2,), (None,)), ('grey', 'white', 'white'), ((0,),), (True,))
>>> [start((1, ((None,),), ((0,),))), covered(STATE), lost(STATE), is_ended(((), False), STATE)]
[(1, ((None,),), ('white',), ((0,),), (False,)), (1, 2), (1, 2), False]
"""

RUNS = """
>>> from shadebarriers.runs import is_run, states_of, thread_steps
>>> RUN = ((1, ((1,), (None,)), ((0,),)), (('visit', 0), ('load', 0, 0, 0), ('store', 0, 0, 0, None), ('scan', 0)))
>>> [is_run(((), False), RUN), thread_steps(RUN), states_of(((), False), RUN)[-1]]
[True, 2, (1, ((None,), (None,)), ('black', 'white'), ((0, 1),), (True,))]
"""

# The document shows the error of the last line as: raises EmptySlot(slot=0)
STEPS = """
>>> from shadebarriers.states import start
>>> from shadebarriers.steps import after
"""
RAISING = "after(((), False), start((1, ((None,),), ((0,),))), ('load', 0, 0, 0))"

PROPERTIES = """
>>> from shadebarriers.properties import PROPERTIES, first_break
>>> RUN = ((1, ((1,), (None,)), ((0,),)), (('visit', 0), ('load', 0, 0, 0), ('store', 0, 0, 0, None), ('scan', 0)))
>>> [PROPERTIES, [first_break(((), False), RUN, word) for word in PROPERTIES]]
[('clean', 'covered', 'direct', 'safe', 'strong', 'weak'), [2, 3, 3, 4, None, None]]
"""

JUDGING = """
>>> from shadebarriers.judging import fewest_steps, holds, properties_of
>>> from shadebarriers.marks import known_table
>>> [holds(known_table(word), 'safe') for word in ('value', 'holder', 'old', 'both', 'load')]
[True, True, False, True, True]
>>> [fewest_steps(known_table('old'), 'safe'), fewest_steps(((), False), 'safe'), properties_of(known_table('load'))]
[2, 1, ('clean', 'covered', 'direct', 'safe', 'strong', 'weak')]
"""

NEEDLESS = """
>>> from shadebarriers.marks import known_table
>>> from shadebarriers.needless import least, needs_rescan
>>> [len(least(known_table('load'), 'safe')[0]), needs_rescan(known_table('value'), 'safe'), needs_rescan(known_table('load'), 'safe')]
[5, True, False]
"""

PRICES = """
>>> from shadebarriers.marks import all_marks, known_table
>>> from shadebarriers.prices import cheapest
>>> EACH = (tuple([(mark, 1) for mark in all_marks()]), 1)
>>> [cheapest(((), False), EACH, 'safe')[0], cheapest(known_table('old'), EACH, 'safe')[0], cheapest(((), False), ((), 1), 'safe')]
[5, 4, None]
"""

COUNTING = """
>>> from shadebarriers.counting import count_least, count_within
>>> from shadebarriers.marks import all_marks
>>> [count_within((all_marks(), False), 'safe'), count_within((all_marks()[1:], False), 'safe'), count_least('clean', False)]
[1, 2, 9]
"""

MACHINE = """
>>> from shadebarriers.machine import Machine
>>> M = Machine(((), False), (1, ((1,), (None,)), ((0,),)))
>>> [M.do(('visit', 0)), M.do(('load', 0, 0, 0)), M.do(('store', 0, 0, 0, None)), M.collect(), M.is_ended(), M.lost(), M.undo()]
[None, None, None, 1, True, (1,), ('scan', 0)]
"""

TEXTS = r"""
>>> from shadebarriers.texts import format_heap, format_steps, parse_table
>>> [format_heap((2, ((None, 0),), ((0,), ()))), format_steps((('store', 0, 1, 0, None), ('new', 2)))]
['width 2\nobject - 0\nthread 0\nthread', 'store 0 1 0 -\nnew 2']
>>> parse_table('rescan no\nnew scanned')
((('new', 'scanned'),), False)
"""

DESK = """
>>> from shadebarriers.desk import Desk
>>> DESK = Desk()
>>> [DESK.say('holds safe'), DESK.say('mark new scanned'), DESK.say('fewest safe'), DESK.say('table'), DESK.say('heap width 1 / object - / thread 0'), DESK.say('do visit 0'), DESK.say('collect'), DESK.say('lost')]
['no', 'done', '2', 'rescan no / new scanned', 'done', 'done', '1', 'none']
"""


class Examples(unittest.TestCase):
    def run_example(self, name, text):
        test = doctest.DocTestParser().get_doctest(text, {}, name, None, 0)
        report = []
        result = doctest.DocTestRunner(verbose=False).run(test, out=report.append, clear_globs=False)
        self.assertGreater(result.attempted, 1)
        self.assertEqual(result.failed, 0, "".join(report))
        return test.globs

    def test_heaps(self):
        self.run_example("heaps", HEAPS)

    def test_marks(self):
        self.run_example("marks", MARKS)

    def test_states(self):
        self.run_example("states", STATES)

    def test_runs(self):
        self.run_example("runs", RUNS)

    def test_steps(self):
        names = self.run_example("steps", STEPS)
        with self.assertRaises(EmptySlot) as caught:
            eval(RAISING, names)
        self.assertEqual(vars(caught.exception), {"slot": 0})

    def test_properties(self):
        self.run_example("properties", PROPERTIES)

    def test_judging(self):
        self.run_example("judging", JUDGING)

    def test_needless(self):
        self.run_example("needless", NEEDLESS)

    def test_prices(self):
        self.run_example("prices", PRICES)

    def test_counting(self):
        self.run_example("counting", COUNTING)

    def test_machine(self):
        self.run_example("machine", MACHINE)

    def test_texts(self):
        self.run_example("texts", TEXTS)

    def test_desk(self):
        self.run_example("desk", DESK)

    def test_readme(self):
        self.run_example("readme", README.read_text(encoding="utf-8"))


if __name__ == "__main__":
    unittest.main()
