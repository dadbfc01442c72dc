"""The examples of the document, as they stand there: tests/examples.txt holds those of the files that are written."""

import ast
import importlib
import inspect
import os
import unittest

from whosefirst import errors

HERE = os.path.dirname(os.path.abspath(__file__))
DOCUMENT = os.path.join(HERE, "..", "..", "shared", "DOC.md")


def headings():
    """Pairs of a module's name and its lines."""
    with open(os.path.join(HERE, "examples.txt"), encoding="utf-8") as file:
        parts = file.read().split("## ")[1:]
    return [(part.splitlines()[0], part.splitlines()[1:]) for part in parts]


def names_of(modules):
    """All functions and classes of some modules, as examples leave imports out."""
    names = {}
    for module in modules:
        whole = f"whosefirst.{module}"
        names.update({name: value for name, value in vars(importlib.import_module(whole)).items() if getattr(value, "__module__", "") == whole})
    return names


def told_error(text):
    """The class of an error, as an example tells it, and those of its fields that are told there."""
    call = ast.parse(text, mode="eval").body
    cls = getattr(errors, call.func.id)
    values = [ast.literal_eval(value) for value in call.args]
    named = {word.arg: ast.literal_eval(word.value) for word in call.keywords}
    return cls, dict(inspect.signature(cls).bind_partial(*values, **named).arguments)


class Examples(unittest.TestCase):

    def test_all(self):
        names = names_of([module for module, _ in headings()])
        asked = 0
        for module, lines in headings():
            for line, answer in zip(lines, [*lines[1:], ""]):
                if line.startswith(">>> "):
                    with self.subTest(module=module, line=line):
                        self.is_so(line[4:], answer, names)
                    asked += 1
        self.assertGreater(asked, 130)

    def is_so(self, code, answer, names):
        if answer == "" or answer.startswith(">>> "):
            exec(code, names)
        elif answer.startswith("raises "):
            cls, fields = told_error(answer[len("raises "):])
            with self.assertRaises(cls) as caught:
                eval(code, names)
            self.assertIs(type(caught.exception), cls)
            self.assertEqual({name: vars(caught.exception)[name] for name in fields}, fields)
        else:
            self.assertEqual(repr(eval(code, names)), answer)

    def test_they_stand_so_in_the_document(self):
        if not os.path.exists(DOCUMENT):
            self.skipTest("the document is not beside the project")
        with open(DOCUMENT, encoding="utf-8") as file:
            text = file.read()
        interface = text.split("# The interface\n")[1]
        self.assertEqual([module for module, _ in headings()], [part.split(".py\n")[0] for part in interface.split("\n## whosefirst/")[1:]])
        for module, lines in headings():
            part = text.split(f"## whosefirst/{module}.py\n")[1].split("\n## ")[0]
            told = [line for block in part.split("```")[1::2] for line in block.splitlines() if line]
            self.assertEqual([line for line in lines if line], told)
