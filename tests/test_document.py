"""The examples of the document, word by word."""

import doctest
import unittest

EXAMPLES = r"""
>>> from joinrounds.books import Book
>>> from joinrounds.levels import holds, level
>>> book = Book.read("plan up all base 1\njoin 1 of 2 left 1\ncall up on 1 of 2\njoin 0 of 2 left 1\nplan three last 3 base 2\njoin 0 of 1 left 1\njoin 0 of 1 left 1")
>>> [book.names, repr(book), level(book, "up", 3), holds(book, "up", 100)]
[('up', 'three'), 'Book of 2 plans', (((0, 1), (1, 2), (2, 3)), ((0, 1), (0, 2), (2, 3)), ((0, 1), (0, 2), (2, 3)), ((0, 1), (0, 2), (0, 3))), True]
>>> [level(book, "three", 3)[1:], holds(book, "three", 2), holds(book, "three", 3)]
[(((0, 1), (0, 2), (1, 3)), ((0, 1), None, None)), True, False]
>>> from joinrounds.hazards import hazards
>>> from joinrounds.verdicts import is_sound, uses, wrong_at
>>> [is_sound(book, "up"), wrong_at(book, "three"), uses(book, "up"), hazards(book, "up"), hazards(book, "three")]
[True, ('three', 3, 1), ('up',), (), ((0, 3, 1), (1, 3, 1))]
>>> from joinrounds.counts import joins, rounds
>>> [joins(book, "up", 8), rounds(book, "up", 8), joins(book, "up", 2 ** 39), rounds(book, "up", 2 ** 39), joins(book, "three", 2)]
[11, 6, 1099511627735, 78, 1]
>>> from joinrounds.mending import idle, mends
>>> other = Book((("four", "last 4", 1, ("join 0 of 1 left 1", "join 0 of 1 left 3")),))
>>> [mends(other, "four"), idle(book, "up"), idle(other, "four")]
[((1, 'join 0 of 1 left 2'),), (), ()]
>>> from joinrounds.rows import Row
>>> row = Row(book, "up", ("a", "b", "c", "d"))
>>> [row.after().words, row.last().words, row.last().done, row.due == row.last().words, Row(book, "three", ("a", "b", "c")).last().words]
[('a', 'ab', 'c', 'cd'), ('a', 'ab', 'abc', 'abcd'), 3, True, ('a', 'aab', 'abbc')]
"""


class DocumentTest(unittest.TestCase):

    def test_the_examples_show_what_the_document_shows(self):
        examples = doctest.DocTestParser().get_doctest(EXAMPLES, {}, "document", None, None)
        results = doctest.DocTestRunner().run(examples)
        self.assertEqual((results.failed, results.attempted), (0, 16))


if __name__ == "__main__":
    unittest.main()
