import contextlib
import io
import pathlib
import unittest

README = pathlib.Path(__file__).parent.parent / "README.md"


class Readme(unittest.TestCase):
    def test_the_examples_run_one_behind_another(self):
        blocks = [part.split("```")[0] for part in README.read_text().split("```python\n")[1:]]
        self.assertGreater(len(blocks), 5)
        names, told = {}, io.StringIO()
        with contextlib.redirect_stdout(told):
            for block in blocks:
                exec(block, names)
        lines = told.getvalue().splitlines()
        for line in ("((1, 2), (134217729,))", "('apple', 'pear')", "('1', \"'red apple'\", 'yes')", "3 ('pen',) 1200",
                     "done 'red apple'", "done", "('visits+0', (5,))", "('fig',) () 0"):
            self.assertIn(line, lines)


if __name__ == "__main__":
    unittest.main()
