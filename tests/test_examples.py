"""The examples of the document, as they stand there: points [4] and [6]; and those of the README."""

import doctest
import pathlib
import unittest

README = pathlib.Path(__file__).resolve().parent.parent / "README.md"

HEAPS = """
>>> from shadebarriers.heaps import is_heap, reachable
>>> HEAP = (1, ((1,), (None,), (0,)), ((0,), ()))
>>> [is_heap(HEAP), reachable(HEAP), is_heap((1, ((3,),), ((0,),)))]
[True, (0, 1), False]
"""

MARKS = """
>>> from shadebarriers.marks import all_marks, is_mark, joined, known_table, shaded
>>> T = ((('load', 'scanned', 'grey'), ('store', 'scanned', 'black', 'none', 'white', 'holder')), False)
>>> [len(all_marks()), is_mark(('store', 'scanned', 'grey', 'none', 'white', 'holder')), shaded(T, 'scanned', 'black', 'none', 'white')]
[120, False, ('holder',)]
>>> [len(known_table('old')[0]), known_table('value')[1], joined(T, ((('new', 'scanned'),), True))[1], joined()]
[26, True, True, ((), False)]
"""


class Examples(unittest.TestCase):
    def run_example(self, name, text):
        test = doctest.DocTestParser().get_doctest(text, {}, name, None, 0)
        report = []
        result = doctest.DocTestRunner(verbose=False).run(test, out=report.append)
        self.assertGreater(result.attempted, 2)
        self.assertEqual(result.failed, 0, "".join(report))

    def test_heaps(self):
        self.run_example("heaps", HEAPS)

    def test_marks(self):
        self.run_example("marks", MARKS)

    def test_readme(self):
        self.run_example("readme", README.read_text(encoding="utf-8"))


if __name__ == "__main__":
    unittest.main()
