"""What README.md shows is what the program answers."""

import ast
import pathlib
import re
import unittest

README = pathlib.Path(__file__).resolve().parent.parent / "README.md"


def shown(remark):
    """The value that a remark begins with, perhaps with more words behind a colon."""
    for text in [remark, remark.partition(": ")[0]]:
        try:
            return ast.literal_eval(text)
        except (SyntaxError, ValueError):
            pass
    raise AssertionError(f"no value: {remark}")


class Readme(unittest.TestCase):
    def test_what_is_shown_is_answered(self):
        block = re.search(r"```python\n(.*?)```", README.read_text(encoding="utf-8"), re.DOTALL).group(1)
        names = {}
        told = 0
        for row in block.splitlines():
            code, _, remark = row.partition("  # ")
            if remark:
                value = eval(code, names)
                with self.subTest(row=row):
                    self.assertEqual((type(value), value), (type(shown(remark.strip())), shown(remark.strip())))
                told += 1
            else:
                exec(code, names)
        self.assertGreater(told, 40)


if __name__ == "__main__":
    unittest.main()
