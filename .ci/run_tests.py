"""Runs every test_*.py under the folders that are named, and fails if a test fails."""

import os
import pathlib
import re
import subprocess
import sys

ROOT = pathlib.Path(__file__).resolve().parent.parent
# What newer Pythons exit with where a file holds no test; older ones exit with 0.
NO_TEST = 5


def run_file(path):
    # A process for each file: files of one name in two folders don't get in each other's way.
    folder = str(path.parent)
    words = [sys.executable, "-B", "-m", "unittest", "discover", "-s", folder, "-t", folder, "-p", path.name]
    env = dict(os.environ, PYTHONPATH=str(ROOT), PYTHONDONTWRITEBYTECODE="1")
    done = subprocess.run(
        words, cwd=ROOT, env=env, stdin=subprocess.DEVNULL,
        stdout=subprocess.PIPE, stderr=subprocess.STDOUT, text=True, errors="replace",
    )
    return done.returncode, done.stdout


def counts(code, told):
    ran = sum([int(number) for number in re.findall(r"^Ran (\d+) tests? in ", told, re.MULTILINE)][-1:])
    if code == 0 or (code == NO_TEST and ran == 0):
        return ran, 0
    last = told.strip().splitlines()[-1:]
    bad = re.findall(r"(?<!expected )(?:failures|errors|unexpected successes)=(\d+)", "".join(last))
    # A process that broke off tells no count: still something failed.
    failed = max(sum([int(number) for number in bad]), 1)
    return max(ran - failed, 0), failed


def main(folders):
    passed = 0
    failed = 0
    for folder in folders:
        if not pathlib.Path(folder).is_dir():
            print(f"no folder {folder}")
            failed += 1
        for path in sorted(pathlib.Path(folder).resolve().rglob("test_*.py")):
            code, told = run_file(path)
            good, bad = counts(code, told)
            print(f"{path}: {good} good, {bad} bad", flush=True)
            if bad:
                print(told, flush=True)
            passed += good
            failed += bad
    print(f"{passed} passed, {failed} failed")
    return 0 if failed == 0 and passed > 0 else 1


if __name__ == "__main__":
    sys.exit(main(sys.argv[1:]))
