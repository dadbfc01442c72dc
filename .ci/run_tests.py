"""Runs all test_*.py below the folders that are told, and prints how many tests passed and failed.

Each folder that holds tests runs in a process of its own, as files of unlike folders may have one name.
The first folder must hold a test.
"""

import os
import subprocess
import sys
import unittest


def folders_with_tests(top):
    """All folders below top, itself too, that hold a file test_*.py."""
    found = []
    for folder, below, files in os.walk(top):
        below.sort()
        if any(name.startswith("test_") and name.endswith(".py") for name in files):
            found.append(folder)
    return found


class Counting(unittest.TextTestResult):
    """Keeps which tests failed: one with several wrong parts counts once."""

    def __init__(self, *args, **named):
        super().__init__(*args, **named)
        self.wrong = set()

    def addFailure(self, test, err):
        super().addFailure(test, err)
        self.wrong.add(test.id())

    def addError(self, test, err):
        super().addError(test, err)
        self.wrong.add(getattr(test, "test_case", test).id())

    def addSubTest(self, test, subtest, err):
        super().addSubTest(test, subtest, err)
        if err is not None:
            self.wrong.add(test.id())

    def addUnexpectedSuccess(self, test):
        super().addUnexpectedSuccess(test)
        self.wrong.add(test.id())


def run_folder(folder):
    """Runs the tests of one folder in this process; its last line tells how many passed, failed, were skipped."""
    suite = unittest.TestSuite()
    for name in sorted(os.listdir(folder)):
        if name.startswith("test_") and name.endswith(".py"):
            suite.addTest(unittest.defaultTestLoader.discover(folder, pattern=name, top_level_dir=folder))
    result = unittest.TextTestRunner(stream=sys.stderr, resultclass=Counting).run(suite)
    failed = len(result.wrong)
    skipped = len(result.skipped)
    print(max(result.testsRun - failed - skipped, 0), failed, skipped)


def counts_of(folder):
    """How many tests of a folder passed, failed, were skipped, run in a process of its own."""
    done = subprocess.run([sys.executable, __file__, "--folder", os.path.abspath(folder)], stdout=subprocess.PIPE, text=True)
    last = done.stdout.strip().splitlines()[-1:] if done.returncode == 0 else []
    numbers = [int(word) for word in last[0].split()] if last else []
    return numbers if len(numbers) == 3 else [0, 1, 0]


def main(tops):
    total = [0, 0, 0]
    for at, top in enumerate(tops):
        folders = folders_with_tests(top)
        if at == 0 and not folders:
            print(f"no test under {top}")
            return 1
        for folder in folders:
            print(f"== {folder}", flush=True)
            total = [one + more for one, more in zip(total, counts_of(folder))]
    passed, failed, skipped = total
    print(f"{passed} passed, {failed} failed, {skipped} skipped")
    return 0 if failed == 0 and passed > 0 else 1


if __name__ == "__main__":
    if sys.argv[1] == "--folder":
        run_folder(sys.argv[2])
    else:
        sys.exit(main(sys.argv[1:]))
