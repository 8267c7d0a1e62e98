"""The examples of README.md: each remark behind a call is what it tells."""

import ast
import os
import re
import unittest

README = os.path.join(os.path.dirname(os.path.dirname(os.path.abspath(__file__))), "README.md")


def examples():
    with open(README, encoding="utf-8") as file:
        text = file.read()
    rows = text[text.index("## Use"):text.index("## Tests")].split("\n")
    return "\n".join(row[4:] if row.startswith("    ") else "" for row in rows)


def remark_of(row):
    """The value that a row's remark tells, in a tuple, words behind a colon left out; None where it tells none."""
    found = re.search(r"\s#\s(.*)$", row)
    if not found:
        return None
    for words in (found[1], found[1].split(": ")[0]):
        try:
            return (ast.parse(words, mode="eval"),)
        except SyntaxError:
            continue
    return None


class TestReadme(unittest.TestCase):
    def test_examples(self):
        source = examples()
        rows = source.split("\n")
        names = {}
        seen = 0
        for node in ast.parse(source).body:
            told = remark_of(rows[node.end_lineno - 1])
            if isinstance(node, ast.Expr):
                value = eval(compile(ast.Expression(node.value), README, "eval"), names)
                if told is not None:
                    seen += 1
                    self.assertEqual(value, eval(compile(told[0], README, "eval"), names), rows[node.end_lineno - 1])
            else:
                exec(compile(ast.Module([node], []), README, "exec"), names)
                if told is not None:
                    seen += 1
                    name = node.targets[0].id
                    self.assertEqual(names[name], eval(compile(told[0], README, "eval"), names), name)
        self.assertGreater(seen, 40)


if __name__ == "__main__":
    unittest.main()
