"""The examples of README.md tell what they say they do."""

import os
import re
import unittest

README = os.path.join(os.path.dirname(os.path.dirname(os.path.abspath(__file__))), "README.md")
# An expression, behind # its value, and behind ; what is said of it.
EXAMPLE = re.compile(r"^(\S.*\)) +# ([\[(\"][^;]*)(;.*)?$")


class Examples(unittest.TestCase):
    def test_each_of_them(self):
        with open(README, encoding="utf-8") as file:
            code = re.search(r"```python\n(.*?)```", file.read(), re.DOTALL).group(1)
        names = {}
        exec(code, names)
        # A desk anew, as its deeds change what the lines behind them tell.
        names["desk"] = names["Desk"](names["archive_text"](names["whole"]))
        lines = [found for found in map(EXAMPLE.match, code.splitlines()) if found]
        self.assertEqual(len(lines), 12)
        for found in lines:
            self.assertEqual(eval(found[1], names), eval(found[2]), found[1])


if __name__ == "__main__":
    unittest.main()
