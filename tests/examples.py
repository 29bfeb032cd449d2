"""Runs the examples that a file quotes from the document."""

import contextlib
import io
import os

from knownplay import errors

FOLDER = os.path.join(os.path.dirname(os.path.abspath(__file__)), "doc_examples")
RAISES = "raises "


def examples(name):
    """The triples (point, source, wanted lines) of the examples in the file of this name."""
    with open(os.path.join(FOLDER, name), encoding="ascii") as file:
        lines = file.read().splitlines()
    found = []
    point = ""
    for line in lines:
        if line.startswith(">>> "):
            found.append((point, line[4:], []))
        elif line.startswith("[") and line.endswith("]") and line[1:-1].isalnum():
            point = line[1:-1]
        else:
            found[-1][2].append(line)
    return found


def printed(source, names):
    """The lines that a statement prints, or of what it is worth, as Python shows it."""
    out = io.StringIO()
    with contextlib.redirect_stdout(out):
        exec(compile(source, "<example>", "single"), names)
    return out.getvalue().splitlines()


def run_examples(test, *files):
    """Lets test fail for each example in the files that does not come out as it is told; returns how many there are.

    Names that were set once stay set from one file to the next.
    """
    names = {}
    found = [example for name in files for example in examples(name)]
    for point, source, wanted in found:
        with test.subTest(point=point, source=source):
            if len(wanted) == 1 and wanted[0].startswith(RAISES):
                error = eval(wanted[0][len(RAISES):], dict(vars(errors)))
                with test.assertRaises(type(error)) as caught:
                    printed(source, names)
                test.assertIs(type(caught.exception), type(error))
                test.assertEqual(repr(vars(caught.exception)), repr(vars(error)))
            else:
                test.assertEqual(printed(source, names), wanted)
    return len(found)
