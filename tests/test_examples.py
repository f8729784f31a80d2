import os
import unittest

from fallingfields import errors

EXAMPLES = os.path.join(os.path.dirname(os.path.abspath(__file__)), "examples.txt")
PROMPT = ">>> "
RAISES = "raises "


def examples():
    """Return pairs of a line of code and what stands below it, None if there is nothing."""
    with open(EXAMPLES, encoding="utf-8") as file:
        lines = file.read().splitlines()
    found = []
    for line in lines:
        if line.startswith(PROMPT):
            found.append((line[len(PROMPT):], None))
        else:
            found[-1] = (found[-1][0], line)
    return found


def told(code, names):
    """Return what code tells with these names, as the examples write it; keep the names that it sets."""
    try:
        return repr(eval(code, names))
    except errors.FieldsError as error:
        held = ", ".join(repr(value) for value in vars(error).values())
        return f"{RAISES}{type(error).__name__}({held})"


class ExamplesTest(unittest.TestCase):
    """All examples of the document, from the first to the last; names that were set once stay set."""

    def test_examples(self):
        names = {}
        for at, (code, right) in enumerate(examples()):
            with self.subTest(at=at, code=code):
                if right is None:
                    exec(code, names)
                else:
                    self.assertEqual(told(code, names), right)

    def test_there_are_all_of_them(self):
        self.assertEqual(len(examples()), 119)
        self.assertEqual(len([right for _, right in examples() if right is not None]), 83)


if __name__ == "__main__":
    unittest.main()
