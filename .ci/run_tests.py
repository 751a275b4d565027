"""Runs all tests below a folder, and fails if one fails; with --some also if there is none."""

import sys
import unittest


def main(start, top, some):
    suite = unittest.TestLoader().discover(start, "test_*.py", top)
    result = unittest.TextTestRunner(stream=sys.stdout).run(suite)
    failed = len(result.failures) + len(result.errors) + len(result.unexpectedSuccesses)
    passed = result.testsRun - failed - len(result.skipped)
    print(f"{passed} passed, {failed} failed, {len(result.skipped)} skipped", flush=True)
    if not result.wasSuccessful() or (some and not passed):
        return 1
    return 0


if __name__ == "__main__":
    sys.exit(main(sys.argv[1], sys.argv[2], "--some" in sys.argv[3:]))
