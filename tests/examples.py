"""Runs examples as DOC.md writes them: `>>> ` lines, and the value, or `raises Error(name=value)`, below."""

import ast


def check_examples(case, text):
    """Run the examples of a text and compare each with what stands below it."""
    names = {}
    lines = [line.strip() for line in text.strip().splitlines() if line.strip()]
    for k, line in enumerate(lines):
        if not line.startswith(">>> "):
            continue
        below = lines[k + 1] if k + 1 < len(lines) and not lines[k + 1].startswith(">>> ") else None
        if below is None:
            exec(line[4:], names)
        elif below.startswith("raises "):
            check_raises(case, line[4:], below[7:], names)
        else:
            case.assertEqual(repr(eval(line[4:], names)), below, line)


def check_raises(case, source, wanted, names):
    """Check that an expression raises the wanted error, which is written as a call with names."""
    call = ast.parse(wanted, mode="eval").body
    with case.assertRaises(ValueError) as caught:
        eval(source, names)
    error = caught.exception
    case.assertEqual(error.__class__.__name__, call.func.id)
    case.assertEqual(vars(error), {word.arg: ast.literal_eval(word.value) for word in call.keywords})
