"""The examples of README.md run, and what they say of schemas and columns holds."""

import contextlib
import io
import pathlib
import re
import unittest

README = pathlib.Path(__file__).resolve().parent.parent / "README.md"


class Examples(unittest.TestCase):

    def test_all_blocks_run_one_behind_the_other(self):
        blocks = re.findall(r"```python\n(.*?)```", README.read_text(encoding="utf-8"), re.S)
        self.assertGreater(len(blocks), 5)
        names, told = {}, io.StringIO()
        with contextlib.redirect_stdout(told):
            for block in blocks:
                exec(block, names)
        self.assertEqual(told.getvalue().split("\n")[:-1], ["ok", "ok", "ok", "2", "ok", "0.1=1 1.1=2"])

    def test_lines_with_their_results(self):
        blocks = re.findall(r"```python\n(.*?)```", README.read_text(encoding="utf-8"), re.S)
        names, looked = {}, 0
        for block in blocks:
            with contextlib.redirect_stdout(io.StringIO()):
                exec(block, names)
            if "edited" in block or "live" in block:
                # Their names stand for something else at the end than at the line.
                continue
            for line in block.split("\n"):
                found = re.fullmatch(r"(\S.*?\))\s+# ([\[(\d\"].*?)(: .*)?", line)
                if found and "=" not in found[1].split("(")[0] and "wider" not in found[1]:
                    try:
                        wanted = eval(found[2], names)
                    except SyntaxError:
                        continue
                    self.assertEqual(eval(found[1], names), wanted, line)
                    looked += 1
        self.assertGreater(looked, 10)
