"""Run the tests in a folder, and tell in a closing line how many of them passed and failed.

usage: python3 .ci/run_tests.py FOLDER TOP_FOLDER
"""

import sys
import unittest


def main(folder, top):
    suite = unittest.defaultTestLoader.discover(folder, pattern="test_*.py", top_level_dir=top)
    result = unittest.TextTestRunner().run(suite)
    failed = len(result.failures) + len(result.errors) + len(result.unexpectedSuccesses)
    passed = max(result.testsRun - failed - len(result.skipped), 0)
    print(f"{passed} passed, {failed} failed, {len(result.skipped)} skipped", flush=True)
    return 0 if result.wasSuccessful() and result.testsRun > 0 else 1


if __name__ == "__main__":
    sys.exit(main(*sys.argv[1:]))
