"""Runs the tests of each folder that holds some, under each Python that the program is written for.

Each folder is run by a process of its own: two folders may have files of one name.
"""

import os
import pathlib
import re
import subprocess
import sys

ROOT = pathlib.Path(__file__).resolve().parent.parent
PLACES = [ROOT / "tests", ROOT.parent / "shared" / "tests"]
VERSIONS = ["3.11", "3.13"]


def folders():
    """The folders below the two places that hold a file test_*.py."""
    return sorted({path.parent for place in PLACES for path in place.rglob("test_*.py")})


def pythons():
    """The Python that runs this, and one of each other version that is installed."""
    found = {version_of(sys.executable): sys.executable}
    for version in VERSIONS:
        kept = sorted(pathlib.Path.home().glob(f".pyenv/versions/{version}.*/bin/python3"))
        for name in [f"python{version}", *map(str, kept)]:
            if version not in found and version_of(name) == version:
                found[version] = name
    return found


def version_of(name):
    """The version of a Python, such as 3.11, or None if it does not run."""
    show = "import sys; print('.'.join(map(str, sys.version_info[:2])))"
    try:
        done = subprocess.run([name, "-c", show], capture_output=True, text=True, check=False)
    except OSError:
        return None
    return done.stdout.strip() if done.returncode == 0 else None


def run(python, folder):
    """Runs the tests of a folder: how many passed, failed and were skipped."""
    settings = dict(os.environ, PYTHONPATH=str(ROOT), PYTHONDONTWRITEBYTECODE="1")
    call = [python, "-m", "unittest", "discover", "-s", str(folder), "-t", str(folder)]
    done = subprocess.run(call, cwd=ROOT, env=settings, stdin=subprocess.DEVNULL, stdout=subprocess.PIPE,
                          stderr=subprocess.STDOUT, text=True, errors="replace", check=False)
    print(done.stdout, flush=True)
    ran = [int(number) for number in re.findall(r"^Ran (\d+) tests? in", done.stdout, re.MULTILINE)][-1:]
    closing = done.stdout.strip().splitlines()[-1:]
    told = dict(re.findall(r"(failures|errors|skipped|unexpected successes)=(\d+)", "".join(closing)))
    skipped = int(told.pop("skipped", 0))
    failed = sum(map(int, told.values()))
    if not ran or done.returncode != 0:
        failed = max(failed, 1)
    return max(0, sum(ran) - failed - skipped), failed, skipped


def main():
    total = [0, 0, 0]
    for version, python in pythons().items():
        for folder in folders():
            print(f"Python {version}: {folder}", flush=True)
            total = [sum(pair) for pair in zip(total, run(python, folder))]
    passed, failed, skipped = total
    print(f"{passed + failed + skipped} tests ran")
    print(f"{passed} passed, {failed} failed, {skipped} skipped")
    return 0 if failed == 0 and passed > 0 else 1


if __name__ == "__main__":
    sys.exit(main())
