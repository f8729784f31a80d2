import ast
import os
import unittest

PACKAGE = os.path.join(os.path.dirname(os.path.abspath(__file__)), os.pardir, "fallingfields")


def trees():
    """Return pairs of the name of each file of the package and its syntax tree."""
    found = []
    for name in sorted(os.listdir(PACKAGE)):
        if name.endswith(".py"):
            with open(os.path.join(PACKAGE, name), encoding="utf-8") as file:
                found.append((name, ast.parse(file.read())))
    return found


def literals_in_sequences(tree):
    """Return the rows of tree in which a literal stands inside a sequence in a pattern."""
    return sorted({
        part.lineno
        for sequence in ast.walk(tree) if isinstance(sequence, ast.MatchSequence)
        for part in ast.walk(sequence) if isinstance(part, (ast.MatchValue, ast.MatchSingleton))
    })


class PatternsTest(unittest.TestCase):
    """What L6 asks for, as the class Desk compares properties in its __eq__."""

    def test_no_literal_stands_inside_a_sequence_in_a_pattern(self):
        for name, tree in trees():
            self.assertEqual(literals_in_sequences(tree), [], name)

    def test_such_literals_are_found(self):
        text = "match 1:\n case 'a':\n  0\n case ('a', b):\n  0\n case (b, [None]):\n  0\n case (a, _):\n  0\n"
        self.assertEqual(literals_in_sequences(ast.parse(text)), [4, 6])
        self.assertIn("desks.py", [name for name, _ in trees()])


if __name__ == "__main__":
    unittest.main()
