"""The examples of README.md tell what the program tells."""

import pathlib
import re
import unittest

README = pathlib.Path(__file__).resolve().parent.parent / "README.md"
DOCUMENT_FILES = sorted(path.stem for path in (README.parent / "takendown").glob("*.py"))


class TestExamples(unittest.TestCase):
    def test_what_is_printed(self):
        told = []
        known = {"print": lambda *values: told.append(" ".join(map(str, values)))}
        shown = []
        for code in re.findall(r"```python\n(.*?)```", README.read_text(encoding="ascii"), re.S):
            exec(code, known)
            shown += re.findall(r"^\s*print\(.*\)\s+# (.*)$", code, re.M)
        self.assertEqual(len(told), len(shown))
        for one, other in zip(told, shown):
            if other.endswith(" ...]"):
                self.assertTrue(one.startswith(other[:-5]), (one, other))
            else:
                self.assertEqual(one, other)
        self.assertGreater(len(told), 15)

    def test_all_files_are_named(self):
        text = README.read_text(encoding="ascii")
        for name in DOCUMENT_FILES:
            if name != "__init__":
                self.assertIn("`" + name + "`", text)


if __name__ == "__main__":
    unittest.main()
