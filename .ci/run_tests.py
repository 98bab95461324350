"""Runs each file test_*.py under the given folders, and tells how many tests passed.

Each file has a process of its own: files of the same name in two folders
would otherwise be one module.
"""

import os
import pathlib
import re
import subprocess
import sys


def run_file(path):
    """How many tests of a file passed and failed; a file that cannot be run is one failed test."""
    command = [sys.executable, "-m", "unittest", "discover", "-s", path.parent, "-p", path.name]
    surroundings = dict(os.environ, PYTHONPATH=os.getcwd())
    done = subprocess.run(command, env=surroundings, stderr=subprocess.PIPE, text=True)
    print(f"== {path}\n{done.stderr}", flush=True)
    ran = re.search(r"^Ran (\d+) tests? in", done.stderr, re.MULTILINE)
    many = int(ran.group(1)) if ran else 0
    if done.returncode == 0:
        return many, 0
    # Parts of one test can fail one by one, so there may be more faults than tests.
    faults = re.findall(r"(?:failures|errors|unexpected successes)=(\d+)", done.stderr)
    failed = max(1, sum(map(int, faults)))
    return max(0, many - failed), failed


def main(folders):
    passed = 0
    failed = 0
    for folder in map(pathlib.Path, folders):
        if not folder.is_dir():
            sys.exit(f"no folder {folder}")
        for path in sorted(folder.rglob("test_*.py")):
            well, ill = run_file(path)
            passed += well
            failed += ill
    print(f"{passed} passed, {failed} failed")
    sys.exit(1 if failed or not passed else 0)


main(sys.argv[1:])
