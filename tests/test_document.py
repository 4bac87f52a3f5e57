"""The examples of the document, word by word, for the modules that are there."""

import doctest
import unittest

EXAMPLES = r"""
>>> from joinrounds.books import Book
>>> from joinrounds.levels import holds, level
>>> book = Book.read("plan up all base 1\njoin 1 of 2 left 1\ncall up on 1 of 2\njoin 0 of 2 left 1\nplan three last 3 base 2\njoin 0 of 1 left 1\njoin 0 of 1 left 1")
>>> [book.names, repr(book), level(book, "up", 3), holds(book, "up", 100)]
[('up', 'three'), 'Book of 2 plans', (((0, 1), (1, 2), (2, 3)), ((0, 1), (0, 2), (2, 3)), ((0, 1), (0, 2), (2, 3)), ((0, 1), (0, 2), (0, 3))), True]
>>> [level(book, "three", 3)[1:], holds(book, "three", 2), holds(book, "three", 3)]
[(((0, 1), (0, 2), (1, 3)), ((0, 1), None, None)), True, False]
>>> from joinrounds.hazards import hazards
>>> from joinrounds.verdicts import is_sound, uses, wrong_at
>>> [is_sound(book, "up"), wrong_at(book, "three"), uses(book, "up"), hazards(book, "up"), hazards(book, "three")]
[True, ('three', 3, 1), ('up',), (), ((0, 3, 1), (1, 3, 1))]
"""


class DocumentTest(unittest.TestCase):

    def test_the_examples_show_what_the_document_shows(self):
        examples = doctest.DocTestParser().get_doctest(EXAMPLES, {}, "document", None, None)
        results = doctest.DocTestRunner().run(examples)
        self.assertEqual((results.failed, results.attempted), (0, 8))


if __name__ == "__main__":
    unittest.main()
