import doctest
import pathlib
import unittest

README = pathlib.Path(__file__).resolve().parent.parent / "README.md"


class ReadmeTest(unittest.TestCase):
    def test_examples(self):
        text = without_fences(README.read_text(encoding="utf-8"))
        examples = doctest.DocTestParser().get_doctest(text, {}, "README", None, None)
        self.assertTrue(examples.examples)
        self.assertEqual(doctest.DocTestRunner(verbose=False).run(examples).failed, 0)


def without_fences(text):
    """Without the fences, which would count as part of the expected output."""
    return "\n".join("" if line.startswith("```") else line for line in text.splitlines())


if __name__ == "__main__":
    unittest.main()
