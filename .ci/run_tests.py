"""Runs each test file in a process of its own and ends with `N passed, N failed`.

Without an argument: all files, under the running Python and under the other
versions that the program is written for, where they are found.
With the path of a test file: that file alone.
"""

import os
import re
import subprocess
import sys
import unittest
from pathlib import Path

ROOT = Path(__file__).resolve().parent.parent
FOLDERS = (ROOT / "tests", ROOT.parent / "shared" / "tests")
VERSIONS = ("3.11", "3.13")
COUNTS = re.compile(r"^(\d+) passed, (\d+) failed$", re.MULTILINE)


class CountingResult(unittest.TextTestResult):
    passed = 0

    def addSuccess(self, test):
        super().addSuccess(test)
        self.passed += 1


def run_file(path):
    sys.path[:0] = [str(ROOT), str(path.parent)]
    suite = unittest.defaultTestLoader.loadTestsFromName(path.stem)
    runner = unittest.TextTestRunner(stream=sys.stderr, resultclass=CountingResult)
    result = runner.run(suite)
    failed = len(result.failures) + len(result.errors) + len(result.unexpectedSuccesses)
    print(f"\n{result.passed} passed, {failed} failed", flush=True)
    return failed


def version_of(python):
    code = "import sys; print('%d.%d' % sys.version_info[:2])"
    try:
        told = subprocess.run([python, "-c", code], capture_output=True, text=True)
    except OSError:
        return None
    return told.stdout.strip()


def find_pythons():
    """The running Python first, then one for each other version that starts here."""
    pythons = [sys.executable]
    versions = {version_of(sys.executable)}
    pyenv = Path(os.environ.get("PYENV_ROOT", Path.home() / ".pyenv"))
    for version in VERSIONS:
        homes = sorted(pyenv.glob(f"versions/{version}.*/bin/python3"))
        for python in [f"python{version}", *[str(home) for home in homes]]:
            if version not in versions and version_of(python) == version:
                pythons.append(python)
                versions.add(version)
    return pythons


def counts_of(python, path):
    """The numbers of passed and failed tests; a file that breaks off has failed."""
    print(f"{path} ({version_of(python)})", file=sys.stderr, flush=True)
    told = subprocess.run([python, __file__, str(path)], cwd=ROOT, stdout=subprocess.PIPE, text=True)
    counts = COUNTS.findall(told.stdout)
    if not counts:
        return 0, 1
    passed, failed = int(counts[-1][0]), int(counts[-1][1])
    return passed, failed or int(told.returncode != 0)


def main():
    if len(sys.argv) > 1:
        return int(run_file(Path(sys.argv[1]).resolve()) > 0)
    passed = failed = 0
    for python in find_pythons():
        for folder in FOLDERS:
            for path in sorted(folder.rglob("test_*.py")):
                more_passed, more_failed = counts_of(python, path)
                passed += more_passed
                failed += more_failed
    print(f"{passed} passed, {failed} failed")
    return int(failed > 0 or passed == 0)


if __name__ == "__main__":
    sys.exit(main())
