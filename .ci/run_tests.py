"""Runs every test file of the project and of ../shared/tests.

Without an argument, all files are run, each in a process of its own, so that
files of the same name in the two folders do not get in each other's way. With
the path of a test file, that file is run, and the last line tells the counts.
"""

import os
import subprocess
import sys
import unittest

ROOT = os.path.dirname(os.path.dirname(os.path.abspath(__file__)))
OWN_TESTS = os.path.join(ROOT, "tests")
SHARED_TESTS = os.path.join(os.path.dirname(ROOT), "shared", "tests")


class CountingResult(unittest.TextTestResult):
    """Counts the tests that pass, which unittest itself does not."""

    def __init__(self, *args, **more):
        super().__init__(*args, **more)
        self.passed = 0

    def addSuccess(self, test):
        super().addSuccess(test)
        self.passed += 1

    def addExpectedFailure(self, test, err):
        super().addExpectedFailure(test, err)
        self.passed += 1

    def failed(self):
        """How many tests failed; one with several failed parts counts once."""
        wrong = [test for test, _ in self.failures + self.errors]
        wrong += self.unexpectedSuccesses
        return len({getattr(test, "test_case", test).id() for test in wrong})


def test_files(folder):
    """The paths of the test files in the folder and below it, sorted."""
    found = []
    for where, _, names in os.walk(folder):
        for name in names:
            if name.startswith("test_") and name.endswith(".py"):
                found.append(os.path.join(where, name))
    return sorted(found)


def run_here(path):
    """Run one test file in this process and return its counts."""
    folder, name = os.path.split(os.path.abspath(path))
    sys.path[:0] = [ROOT, folder]
    suite = unittest.defaultTestLoader.loadTestsFromName(name[:-len(".py")])
    runner = unittest.TextTestRunner(stream=sys.stderr, resultclass=CountingResult)
    result = runner.run(suite)
    return result.passed, result.failed(), len(result.skipped)


def run_apart(path):
    """Run one test file in a new process and return its counts."""
    print("==", os.path.relpath(path, ROOT), flush=True)
    command = [sys.executable, "-B", os.path.abspath(__file__), path]
    done = subprocess.run(command, cwd=ROOT, stdin=subprocess.DEVNULL,
                          stdout=subprocess.PIPE, text=True)
    sys.stdout.write(done.stdout)
    words = (done.stdout.splitlines() or [""])[-1].split()
    if done.returncode == 0 and len(words) == 4 and words[0] == "counts":
        return tuple(int(word) for word in words[1:])
    print("the file could not be run to its end, which counts as one failure")
    return 0, 1, 0


def run_all():
    """Run all test files and return how many tests failed."""
    counts = [run_apart(path) for path in test_files(OWN_TESTS) + test_files(SHARED_TESTS)]
    passed, failed, skipped = [sum(column) for column in zip((0, 0, 0), *counts)]
    if passed == 0 and failed == 0:
        print("no test was run, which counts as one failure")
        failed = 1
    tail = f", {skipped} skipped" if skipped else ""
    print(f"{passed} passed, {failed} failed{tail}", flush=True)
    return failed


if __name__ == "__main__":
    if len(sys.argv) == 2:
        print("counts", *run_here(sys.argv[1]))
    else:
        sys.exit(1 if run_all() else 0)
