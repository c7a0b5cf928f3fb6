"""Run every test_*.py of a folder and the folders in it; the last line tells how many tests passed and failed."""

import importlib.util
import os
import sys
import unittest


class Counting(unittest.TextTestResult):
    passed = 0

    def addSuccess(self, test):
        super().addSuccess(test)
        self.passed += 1


def test_files(folder):
    found = []
    for place, _, names in os.walk(folder):
        found.extend(os.path.join(place, name) for name in names if name.startswith("test_") and name.endswith(".py"))
    return sorted(found)


def tests_of(path, number):
    sys.path.insert(0, os.path.dirname(path))
    spec = importlib.util.spec_from_file_location(f"suite_{number}_{os.path.basename(path)[:-3]}", path)
    module = importlib.util.module_from_spec(spec)
    sys.modules[spec.name] = module
    spec.loader.exec_module(module)
    return unittest.defaultTestLoader.loadTestsFromModule(module)


def main():
    suite = unittest.TestSuite()
    broken = 0
    for number, path in enumerate(test_files(os.path.abspath(sys.argv[1]))):
        try:
            suite.addTests(tests_of(path, number))
        except Exception as error:
            print(f"cannot be loaded: {path}: {error!r}")
            broken += 1
    result = unittest.TextTestRunner(stream=sys.stdout, resultclass=Counting).run(suite)
    failed = broken + len(result.failures) + len(result.errors) + len(result.unexpectedSuccesses)
    print(f"{result.passed} passed, {failed} failed, {len(result.skipped)} skipped")
    sys.exit(1 if failed > 0 else 0)


main()
