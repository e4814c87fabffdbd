"""Runs all tests, fails if one fails, and tells in its last line how many ran."""

import os
import re
import subprocess
import sys

ROOT = os.path.dirname(os.path.dirname(os.path.abspath(__file__)))
SHARED = os.path.join(os.path.dirname(ROOT), "shared", "tests")

# From Python 3.12 on a run without tests ends with 5.
GOOD = (0, 5)


def folders_with_tests(top):
    """The folders at and below a folder that hold a file test_*.py, in order, packages below it left to it."""
    found = []
    for folder, _, names in sorted(os.walk(top)):
        if any(re.fullmatch(r"test_.*\.py", name) for name in names):
            found.append(top if "__init__.py" in names else folder)
    return list(dict.fromkeys(found))


def run(folder, top):
    """Run the tests of one folder in a process of its own, as two folders may have files of one name."""
    words = [sys.executable, "-B", "-m", "unittest", "discover", "-s", folder, "-t", top, "-p", "test_*.py"]
    paths = [ROOT, os.environ.get("PYTHONPATH", "")]
    told = dict(os.environ, PYTHONPATH=os.pathsep.join([path for path in paths if path]))
    result = subprocess.run(words, cwd=ROOT, env=told, stderr=subprocess.PIPE, text=True)
    print(result.stderr, end="", flush=True)
    counts = re.findall(r"^Ran (\d+) tests?", result.stderr, re.MULTILINE)
    return result.returncode in GOOD, int(counts[-1]) if counts else 0


def main():
    parts = [(os.path.join(ROOT, "tests"), ROOT)] + [(folder, folder) for folder in folders_with_tests(SHARED)]
    results = [run(folder, top) for folder, top in parts]
    total = sum(count for _, count in results)
    is_good = results[0][1] > 0 and all(good for good, _ in results)
    print(f"{total} tests ran, {'all of them passed' if is_good else 'and not all is well'}", flush=True)
    return 0 if is_good else 1


sys.exit(main())
