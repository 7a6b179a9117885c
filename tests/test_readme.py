"""Runs the examples of README.md: each row that one prints is told there."""

import contextlib
import io
import pathlib
import re
import unittest

README = pathlib.Path(__file__).resolve().parent.parent / "README.md"


class ReadmeTest(unittest.TestCase):
    def test_the_examples(self):
        text = README.read_text(encoding="utf-8")
        examples = re.findall(r"```python\n(.*?)```\n(.*?)\n## ", text, re.S)
        self.assertEqual(len(examples), text.count("```python"))
        for code, behind in examples:
            printed = io.StringIO()
            with contextlib.redirect_stdout(printed):
                exec(code, {})
            told = [row.partition("  # ")[2] for row in code.split("\n")] + [behind]
            for row in printed.getvalue().splitlines():
                self.assertTrue(any(row in one for one in told), row)


if __name__ == "__main__":
    unittest.main()
