import re
import unittest

from tests import language
from tests.test_interface import FILES


class TestLanguage(unittest.TestCase):
    def test_no_fault(self):
        self.assertEqual(language.all_faults(), [])

    def test_nothing_is_left_unused(self):
        interface = set(re.findall(r"(\w+)\(", " ".join(FILES.values())))
        left = [told for told in language.unused_helpers() if told[1] not in interface and told[0] != "errors.py"]
        self.assertEqual(left, [])


class TestFolder(unittest.TestCase):
    def test_only_plain_files(self):
        self.assertTrue(all(name.endswith(".py") for name in language.files()))
        self.assertIn("__init__.py", language.files())


if __name__ == "__main__":
    unittest.main()
