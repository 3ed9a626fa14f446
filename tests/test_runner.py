"""The runner of all tests: a failing test in any folder that it is handed makes it fail."""

import pathlib
import subprocess
import sys
import tempfile
import unittest

RUNNER = pathlib.Path(__file__).resolve().parent.parent / ".ci" / "run_tests.py"

TEXT = """import unittest
from scaleyard.writing import written
class SampleTest(unittest.TestCase):
    def test_one(self):
        self.assertEqual(written((), 1), "free")
    def test_other(self):
        self.assertTrue({})
"""


class RunnerTest(unittest.TestCase):
    def run_on(self, one, other):
        with tempfile.TemporaryDirectory() as place:
            folders = [pathlib.Path(place) / "one", pathlib.Path(place) / "other"]
            for folder, texts in zip(folders, (one, other)):
                folder.mkdir()
                for name, text in texts.items():
                    (folder / name).parent.mkdir(exist_ok=True)
                    (folder / name).write_text(text)
            words = [sys.executable, "-B", str(RUNNER)] + [str(folder) for folder in folders]
            done = subprocess.run(words, stdout=subprocess.PIPE, stderr=subprocess.STDOUT, text=True)
            return done.returncode, done.stdout.splitlines()[-1]

    def test_all_good(self):
        good = TEXT.format("True")
        self.assertEqual(self.run_on({"test_a.py": good}, {"test_a.py": good}), (0, "4 passed, 0 failed"))
        self.assertEqual(self.run_on({"test_a.py": good}, {"README.md": "words"}), (0, "2 passed, 0 failed"))

    def test_a_failing_test_in_either_folder(self):
        good, bad = TEXT.format("True"), TEXT.format("False")
        self.assertEqual(self.run_on({"test_a.py": good, "test_b.py": bad}, {}), (1, "3 passed, 1 failed"))
        self.assertEqual(self.run_on({"test_a.py": good}, {"test_a.py": bad}), (1, "3 passed, 1 failed"))
        self.assertEqual(self.run_on({"test_a.py": good}, {"deep/test_a.py": bad}), (1, "3 passed, 1 failed"))

    def test_a_file_that_breaks_off(self):
        good = TEXT.format("True")
        for broken in ("import nothing_of_that_name", "import os; os._exit(3)", "("):
            self.assertEqual(self.run_on({"test_a.py": good}, {"test_b.py": broken}), (1, "2 passed, 1 failed"))

    def test_no_tests_at_all(self):
        self.assertEqual(self.run_on({}, {}), (1, "0 passed, 0 failed"))


if __name__ == "__main__":
    unittest.main()
