"""The example of the README holds."""

import os
import re
import unittest

README = os.path.join(os.path.dirname(os.path.dirname(os.path.abspath(__file__))), "README.md")


class Readme(unittest.TestCase):
    def test_example(self):
        with open(README, encoding="utf-8") as file:
            examples = re.findall(r"```python\n(.*?)```", file.read(), re.S)
        self.assertEqual(len(examples), 1)
        exec(compile(examples[0], "README.md", "exec"), {})


if __name__ == "__main__":
    unittest.main()
