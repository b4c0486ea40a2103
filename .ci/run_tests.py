"""Runs all tests, here and under ../shared/tests, and tells how many passed and failed.

Called with a folder and the folder from which its tests are imported, it runs the tests of this one folder.
"""

import os
import re
import shutil
import subprocess
import sys
import unittest

SHARED = os.path.join("..", "shared", "tests")
# Tests that go on without end fail.
MOST_SECONDS = 1200
COUNTS = re.compile(r"(\d+) passed, (\d+) failed, (\d+) skipped")


def run_folder(folder, top):
    """Runs the tests of one folder in this process."""
    suite = unittest.defaultTestLoader.discover(folder, pattern="test_*.py", top_level_dir=top)
    result = unittest.TextTestRunner(stream=sys.stdout).run(suite)
    failed = len(result.failures) + len(result.errors) + len(result.unexpectedSuccesses)
    skipped = len(result.skipped)
    passed = max(0, result.testsRun - failed - skipped)
    print(f"{passed} passed, {failed} failed, {skipped} skipped", flush=True)
    return 1 if failed else 0


def folders():
    """The folders with tests, each with the folder from which its tests are imported."""
    found = [("tests", ".")]
    for folder, inner, files in sorted(os.walk(SHARED)):
        if any(name.startswith("test_") and name.endswith(".py") for name in files):
            found.append((folder, folder))
    return found


def version(python):
    """The version of a Python, or None if it does not run."""
    show = "import sys; print(sys.version_info[:2])"
    told = subprocess.run([python, "-c", show], capture_output=True, text=True)
    return told.stdout.strip() if told.returncode == 0 else None


def pythons():
    """This Python, and those of the two versions that the program is meant for, if they are on the machine."""
    found = {version(sys.executable): sys.executable}
    home = os.environ.get("PYENV_ROOT", os.path.expanduser("~/.pyenv"))
    kept = os.path.join(home, "versions")
    names = sorted(os.listdir(kept)) if os.path.isdir(kept) else []
    for wanted in ("3.11", "3.13"):
        candidates = [shutil.which("python" + wanted)]
        candidates += [os.path.join(kept, name, "bin", "python3") for name in names if name.startswith(wanted + ".")]
        for python in candidates:
            if python and os.path.exists(python) and version(python):
                found.setdefault(version(python), python)
    return found


def run_apart(python, folder, top):
    """Runs the tests of one folder in a process of their own; tells how many passed, failed and were skipped."""
    paths = [os.getcwd(), os.environ.get("PYTHONPATH", "")]
    environment = dict(os.environ, PYTHONPATH=os.pathsep.join(path for path in paths if path))
    environment["PYTHONDONTWRITEBYTECODE"] = "1"
    try:
        told = subprocess.run([python, __file__, folder, top], env=environment, stdout=subprocess.PIPE,
                              stderr=subprocess.STDOUT, text=True, timeout=MOST_SECONDS)
    except subprocess.TimeoutExpired:
        print(f"not done within {MOST_SECONDS} seconds", flush=True)
        return 0, 1, 0
    print(told.stdout, flush=True)
    counts = COUNTS.findall(told.stdout)
    passed, failed, skipped = [int(count) for count in counts[-1]] if counts else [0, 0, 0]
    if told.returncode != 0 and failed == 0:
        failed = 1
    return passed, failed, skipped


def main():
    total = [0, 0, 0]
    for name, python in pythons().items():
        for folder, top in folders():
            print(f"Python {name}: {folder}", flush=True)
            counts = run_apart(python, folder, top)
            if folder == "tests" and counts[0] == 0:
                counts = (0, max(1, counts[1]), counts[2])
            total = [old + new for old, new in zip(total, counts)]
    print(f"{total[0]} passed, {total[1]} failed, {total[2]} skipped")
    return 1 if total[1] else 0


if __name__ == "__main__":
    sys.exit(run_folder(*sys.argv[1:]) if len(sys.argv) == 3 else main())
