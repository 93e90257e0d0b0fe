"""What README.md shows must run."""

import contextlib
import io
import os
import re
import unittest


class Readme(unittest.TestCase):
    def test_each_example_runs(self):
        path = os.path.join(os.path.dirname(os.path.abspath(__file__)), "..", "README.md")
        with open(path, encoding="utf-8") as file:
            examples = re.findall(r"```python\n(.*?)```", file.read(), re.S)
        self.assertTrue(examples)
        for example in examples:
            with contextlib.redirect_stdout(io.StringIO()):
                exec(compile(example, path, "exec"), {})


if __name__ == "__main__":
    unittest.main()
