"""The examples of README.md."""

import doctest
import pathlib
import unittest

README = pathlib.Path(__file__).resolve().parent.parent / "README.md"


class Examples(unittest.TestCase):
    def test_examples(self):
        parser = doctest.DocTestParser()
        test = parser.get_doctest(README.read_text(), {}, "README.md", str(README), 0)
        self.assertGreater(len(test.examples), 0)
        runner = doctest.DocTestRunner(verbose=False)
        runner.run(test)
        self.assertEqual(runner.failures, 0)


if __name__ == "__main__":
    unittest.main()
