import pathlib
import unittest

from tests.examples import check_examples

README = pathlib.Path(__file__).resolve().parent.parent / "README.md"


class ReadmeTest(unittest.TestCase):
    def test_examples(self):
        text = README.read_text()
        self.assertIn(">>> ", text)
        check_examples(self, text)


if __name__ == "__main__":
    unittest.main()
