"""What README.md shows runs, and what it says of the lines that print is so."""

import contextlib
import io
import pathlib
import re
import unittest

README = pathlib.Path(__file__).resolve().parent.parent / "README.md"


class Readme(unittest.TestCase):
    def test_code(self):
        code = "\n".join(re.findall(r"```python\n(.*?)```", README.read_text(), re.S))
        out = io.StringIO()
        with contextlib.redirect_stdout(out):
            exec(code, {})
        told = [line for line in code.split("\n") if line.startswith("print(")]
        printed = out.getvalue().split("\n")[:-1]
        self.assertEqual(len(told), len(printed))
        for line, seen in zip(told, printed):
            if "  # " in line:
                self.assertTrue(line.split("  # ")[1].startswith(seen), line)


if __name__ == "__main__":
    unittest.main()
