"""What the tests of tables share: how the document's examples begin, and calls that are to be refused."""

from piecefacts.errors import FactsError
from piecefacts.texts import show_table
from tests.any_values import is_same
from tests.examples import check_examples

BEGIN = """
>>> from piecefacts.questions import where
>>> from piecefacts.table import Table
>>> table = Table('a', 'b')
>>> first_ids = table.put((1, 5), (3, 5), (9, None), (4, 0), (4, 2), (7, 2))
>>> begun = [table.cut('a', 5), table.pack(3), table.pack(3)]
>>> low, five = where('a', ((1, 3),)), where('b', ((5, 5),))
"""


def check_table_examples(case, text):
    """Run examples that begin with the lines of section 11."""
    check_examples(case, BEGIN + text)


def assert_refused(case, tables, error, kept, function, *arguments, **named):
    """Check that a call raises an error that keeps just this, and leaves the texts of tables as they were."""
    before = [show_table(table) for table in tables]
    with case.assertRaises(FactsError) as caught:
        function(*arguments, **named)
    case.assertIs(type(caught.exception), error, (arguments, named))
    case.assertTrue(is_same(vars(caught.exception), kept), (vars(caught.exception), kept))
    case.assertEqual([show_table(table) for table in tables], before)


def plain_values(answer):
    """Return an answer's evidence-free entries."""
    return [entry[:-1] for entry in answer.passed]
