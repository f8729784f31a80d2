import unittest

from fallingfields.booktexts import book_text, read_book, read_record, record_text
from fallingfields.errors import BadText
from samples import CALM, HUGE, SIX, THIN, any_values

TOP = 10 ** 30
ALIGNMENTS = (1, 2, 4, 8, 16, 32, 64)


class TextsTest(unittest.TestCase):
    def refuse_all(self, call, values):
        for value in values:
            with self.subTest(value=repr(value)[:80]), self.assertRaises(BadText) as caught:
                call(value)
            self.assertEqual(vars(caught.exception), {})

    def test_examples(self):
        self.assertEqual(book_text(CALM), "6/4 3/2")
        self.assertEqual(read_book("3/1"), ((3, 1),))
        self.assertEqual(read_book(book_text(THIN)), THIN)
        self.assertEqual(record_text((3, 0)), "3 0")
        self.assertEqual(read_record(CALM, "3 0"), (3, 0))
        self.refuse_all(read_book, ("6/4  3/2", "06/4", "6/3"))
        self.refuse_all(lambda value: read_record(CALM, value), ("0 0",))

    def test_texts_as_they_are(self):
        self.assertEqual(book_text(SIX), "1/1 2/2 3/4 1000000000000000000000000000000/64 5/8 7/16")
        self.assertEqual(record_text((0, TOP, 1)), "0 1000000000000000000000000000000 1")
        self.assertEqual(record_text((10,)), "10")

    def test_books_there_and_back(self):
        books = [SIX[:many] for many in range(1, 7)] + [CALM * 3, THIN, ((1, 1),) * 6]
        books += [((size, alignment),) for size in (1, 9, 10, TOP - 1, TOP) for alignment in ALIGNMENTS]
        for book in books:
            with self.subTest(book=book):
                self.assertEqual(repr(read_book(book_text(book))), repr(book))

    def test_records_there_and_back(self):
        for many in range(1, 7):
            ends = (0,) * (many - 1)
            for record in ((1,) * many, (TOP,) * many, ends + (TOP,), (5,) + ends, tuple(range(10, 10 + many))):
                with self.subTest(record=record):
                    self.assertEqual(repr(read_record(SIX[:many], record_text(record))), repr(record))

    def test_texts_of_no_book(self):
        self.refuse_all(read_book, (
            "", " ", "/", "6", "6/", "/4", "6/4 ", " 6/4", "6/4  3/2", "6 /4", "6/ 4", "6/4 3", "6/4/2", "6//4",
            "6/4\n", "\n6/4", "6/4\n3/2", "6\n/4", "6/4\t3/2", "6/4,3/2", "6:4", "(6, 4)", "((6, 4), (3, 2))", "6-4",
            "06/4", "00/4", "6/04", "6/4 03/2", "+6/4", "-6/4", "6/+4", "6/-4", "6_0/4", "6.0/4", "6e1/4", "0x6/4",
            "0/4", "-0/4", f"{TOP + 1}/4", f"{HUGE}/4", "9" * 20000 + "/4", "6/" + "9" * 19998, "9" * 31 + "/1",
            "6/0", "6/3", "6/5", "6/63", "6/128", f"6/{TOP}", "six/4", "6/four", "True/1", "1/True", "None",
            "1/1 " * 6 + "1/1", "1/1 " * 4999 + "1/1", "\u0666/4", "\u00b2/4",
        ))

    def test_texts_of_no_record(self):
        self.refuse_all(lambda value: read_record(CALM, value), (
            "", " ", "  ", "3", "3 ", " 3", "3 0 1", "3  0", " 3 0", "3 0 ", "3\n0", "3 0\n", "\n3 0", "3\t0", "3,0",
            "03 0", "3 00", "3 01", "+3 0", "3 -0", "-3 0", "3 -1", "1_0 0", "3.0 0", "0x3 0", "three 0", "(3, 0)",
            "0 0", f"{TOP + 1} 0", f"0 {TOP + 1}", f"{HUGE} 0", "9" * 20000, "0 " + "9" * 19998, "True 0", "None 1",
            "3/1 0/1", "3/0", "1 " * 9999 + "1", "\u0663 0", "\u00b3 0",
        ))
        for many in range(1, 7):
            self.refuse_all(lambda value: read_record(SIX[:many], value), (
                " ".join("0" * many), " ".join("1" * (many + 1)), " ".join("1" * (many - 1)),
            ))

    def test_values_that_are_no_strings(self):
        others = [value for value in any_values() if not isinstance(value, str)]
        self.refuse_all(read_book, others + [CALM, b"6/4", ["6/4"]])
        self.refuse_all(lambda value: read_record(CALM, value), others + [(3, 0), b"3 0", ["3", "0"], 3])


if __name__ == "__main__":
    unittest.main()
