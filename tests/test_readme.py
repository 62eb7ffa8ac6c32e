"""The examples of README.md tell what stands behind them."""

import os
import re
import unittest

README = os.path.join(os.path.dirname(os.path.dirname(os.path.abspath(__file__))), "README.md")


class Examples(unittest.TestCase):
    def test_all(self):
        with open(README, encoding="utf-8") as file:
            blocks = re.findall("```python\n(.*?)```", file.read(), re.DOTALL)
        names, told = {}, 0
        for block in blocks:
            exec(block, names)
            for line in block.split("\n"):
                example = re.fullmatch(r"(\S.*?) +# (.+)", line)
                if example:
                    self.assertEqual(eval(example[1], names), eval(example[2], names), line)
                    told += 1
        self.assertGreater(told, 30)


if __name__ == "__main__":
    unittest.main()
