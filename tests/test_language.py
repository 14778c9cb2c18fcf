import os
import unittest

from tests import language


class TestLanguage(unittest.TestCase):
    def test_no_fault(self):
        self.assertEqual(language.all_faults(), [])

    def test_nothing_is_left_unused(self):
        told = {name for _, name in language.unused_helpers()}
        interface = set()
        for name in os.listdir(os.path.dirname(os.path.abspath(__file__))):
            if name.startswith("test_"):
                with open(os.path.join(os.path.dirname(os.path.abspath(__file__)), name), encoding="utf-8") as text:
                    interface |= set(text.read().replace("(", " ").replace(",", " ").replace('"', " ")
                                     .replace(".", " ").replace(")", " ").split())
        self.assertEqual(sorted(told - interface), [])


class TestFolder(unittest.TestCase):
    def test_only_plain_files(self):
        self.assertTrue(all(name.endswith(".py") for name in language.files()))
        self.assertIn("__init__.py", language.files())


if __name__ == "__main__":
    unittest.main()
