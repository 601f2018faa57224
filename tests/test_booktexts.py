"""[19]: histories and books as texts, and back; wrong words by line and place; drawings."""

import unittest

from helpers import LAST, NO_INTEGERS, RELATIONS, dice, row_of, some_book_days, some_changes
from twicedated.books import Book, empty_book
from twicedated.booktexts import draw_columns, read_book, read_history, write_book, write_history
from twicedated.errors import BadMoment, BadText
from twicedated.histories import History

FACTS = [("pays", ("bob",)), ("lives", ("ann", "rome")), ("lives", ("ann", "oslo")), ("pays", ("ann",))]
ANN = ("pays", ("ann",))
HEAD = "relation lives 2\nrelation pays 1"
# Words at the place of relations, names and days that can't stand there, and how they are wrong everywhere.
NO_NAMES = ["", "Ann", "1a", "abcdefghi", "a-b", "\u00e9", "a\t", "a."]
NO_DAYS = ["", "00", "01", "1000000", "-1", "+1", "1.", "x", "\u0663", "\u00b2", "0x1", "1_0", "9999999"]


class WrittenTest(unittest.TestCase):
    def test_histories(self):
        history = History({"pays": 1, "lives": 2}, [("set", "lives", ("ann", "rome"), 0, 99), ("clear", "pays", ("bob",), 5, LAST)])
        text = HEAD + "\nset lives ann,rome 0 99\nclear pays bob 5 999999"
        self.assertEqual(write_history(history), text)
        self.assertEqual(read_history(text), history)
        for number in range(60):
            history = History(RELATIONS, some_changes(dice(number), FACTS, number % 15))
            self.assertEqual(read_history(write_history(history)), history)
            self.assertEqual(write_history(history).count("\n"), 1 + number % 15)

    def test_books(self):
        book = Book({"pays": 1, "lives": 2}, {ANN: [(7, 7), (0, 5), (9, LAST)], ("lives", ("ann", "rome")): [(3, 4)]})
        text = HEAD + "\nfact lives ann,rome 3-4\nfact pays ann 0-5 7-7 9-999999"
        self.assertEqual(write_book(book), text)
        self.assertEqual(read_book(text), book)
        for number in range(60):
            days = some_book_days(dice(number), FACTS)
            book = Book(RELATIONS, {fact: row_of(days[fact]) for fact in days})
            self.assertEqual(read_book(write_book(book)), book)

    def test_nothing(self):
        self.assertEqual(write_history(History({}, ())), "")
        self.assertEqual(read_history(""), History({}, ()))
        self.assertEqual(write_book(empty_book({})), "")
        self.assertEqual(read_book(""), empty_book({}))
        self.assertEqual(write_book(empty_book(RELATIONS)), HEAD)
        self.assertEqual(write_history(History(RELATIONS, ())), HEAD)
        self.assertEqual(read_book(HEAD), empty_book(RELATIONS))
        self.assertEqual(read_history(HEAD), History(RELATIONS, ()))

    def test_in_another_order(self):
        text = "relation pays 1\nrelation lives 2\nfact pays ann 0-5 7-7\nfact lives ann,rome 3-4\nfact lives ann,oslo 3-4"
        self.assertEqual(write_book(read_book(text)),
                         HEAD + "\nfact lives ann,oslo 3-4\nfact lives ann,rome 3-4\nfact pays ann 0-5 7-7")
        text = "relation pays 1\nrelation lives 2\nset pays ann 0 0"
        self.assertEqual(write_history(read_history(text)), HEAD + "\nset pays ann 0 0")

    def test_four_names(self):
        text = "relation d 4\nfact d a,b,c,abcdefgh 0-999999"
        self.assertEqual(write_book(read_book(text)), text)
        text = "relation d 4\nset d a,b,c,abcdefgh 0 999999"
        self.assertEqual(write_history(read_history(text)), text)


class WrongTest(unittest.TestCase):
    def wrong(self, read, text, line, word):
        with self.assertRaises(BadText, msg=text) as caught:
            read(text)
        self.assertEqual((caught.exception.line, caught.exception.word), (line, word), text)
        # What stands behind doesn't matter.
        if text:
            with self.assertRaises(BadText) as caught:
                read(text + "\nx\n\n")
            self.assertEqual((caught.exception.line, caught.exception.word), (line, word), text)

    def both(self, text, line, word):
        self.wrong(read_history, text, line, word)
        self.wrong(read_book, text, line, word)

    def test_relations(self):
        for name in NO_NAMES:
            self.both(f"relation {name} 2", 0, 1)
            self.both(f"relation lives 2\nrelation {name} 7", 1, 1)
        for many in ("0", "5", "", "02", "1.", "-1", "+1", "x", "\u0661", "10", "\u00b2"):
            self.both(f"relation lives {many}", 0, 2)
            self.both(f"relation pays 1\nrelation lives {many} x", 1, 2)
        self.both("relation lives 2\nrelation lives 2", 1, 1)
        self.both("relation lives 2\nrelation lives 9", 1, 1)
        self.both("relation", 0, 1)
        self.both("relation lives", 0, 2)
        self.both("relation lives 2 ", 0, 3)
        self.both("relation lives 2 3", 0, 3)
        self.both("relation  lives 2", 0, 1)
        self.both(" relation lives 2", 0, 0)
        self.both("relation Lives", 0, 1)

    def test_first_words(self):
        for word in ("", "Set", "put", "Relation", "relation", "x", "sets"):
            self.wrong(read_history, f"{HEAD}\nset pays ann 0 1\n{word} pays ann 0 1", 3, 0)
            self.wrong(read_book, f"{HEAD}\nfact pays ann 0-1\n{word} lives ann,rome 0-1", 3, 0)
        for word in ("fact", "clears", "Relation"):
            self.wrong(read_history, f"{HEAD}\n{word} pays ann 0 1", 2, 0)
        for word in ("set", "clear", "facts"):
            self.wrong(read_book, f"{HEAD}\n{word} pays ann 0-1", 2, 0)
        self.both("\n", 0, 0)
        self.both("\n" + HEAD, 0, 0)
        self.both(HEAD + "\n", 2, 0)
        self.both(" ", 0, 0)
        self.both(HEAD + "\n\n", 2, 0)
        self.both(HEAD + "\r\n", 1, 2)

    def test_relations_and_names(self):
        for first, rest in (("set", "0 1"), ("clear", "x y"), ("fact", "0-1"), ("fact", "")):
            read = read_book if first == "fact" else read_history
            for relation in ["owns", *NO_NAMES]:
                self.wrong(read, f"{HEAD}\n{first} {relation} ann {rest}", 2, 1)
            for names in [*NO_NAMES, "ann,bob", "ann,", ",ann", ",", "ann,,bob", "Ann,bob"]:
                self.wrong(read, f"{HEAD}\n{first} pays {names} {rest}", 2, 2)
            for names in ["ann", "ann,rome,x", "ann,rome,", "ann,,rome", *[f"ann,{name}" for name in NO_NAMES]]:
                self.wrong(read, f"{HEAD}\n{first} lives {names} {rest}", 2, 2)
            self.wrong(read, f"{first} pays ann {rest}", 0, 1)
            self.wrong(read, f"{HEAD}\n{first}", 2, 1)
            self.wrong(read, f"{HEAD}\n{first} pays", 2, 2)
            self.wrong(read, f"{HEAD}\n{first}  pays ann", 2, 1)

    def test_days_of_changes(self):
        for thing in NO_DAYS:
            self.wrong(read_history, f"{HEAD}\nset pays ann {thing} 5", 2, 3)
            self.wrong(read_history, f"{HEAD}\nset pays ann {thing}", 2, 3)
            self.wrong(read_history, f"{HEAD}\nclear pays ann 0 {thing}", 2, 4)
        self.wrong(read_history, f"{HEAD}\nset pays ann 5 4", 2, 4)
        self.wrong(read_history, f"{HEAD}\nset pays ann 999999 0", 2, 4)
        self.wrong(read_history, f"{HEAD}\nset pays ann", 2, 3)
        self.wrong(read_history, f"{HEAD}\nset pays ann 5", 2, 4)
        self.wrong(read_history, f"{HEAD}\nset pays ann 5 6 7", 2, 5)
        self.wrong(read_history, f"{HEAD}\nset pays ann 5 6 ", 2, 5)
        self.wrong(read_history, f"{HEAD}\nset pays ann  5 6", 2, 3)
        self.wrong(read_history, f"{HEAD}\nset pays ann 5-6 7", 2, 3)
        self.assertEqual(read_history(f"{HEAD}\nset pays ann 0 0").changes, (("set", "pays", ("ann",), 0, 0),))

    def test_spans(self):
        for thing in [*NO_DAYS, "5", "5-", "-5", "5-4", "05-6", "5-06", "5--6", "5-6-7", "0-1000000", "-", "0-1,", "5:6"]:
            self.wrong(read_book, f"{HEAD}\nfact pays ann {thing}", 2, 3)
            self.wrong(read_book, f"{HEAD}\nfact pays ann 0-0 {thing}", 2, 4)
            self.wrong(read_book, f"{HEAD}\nfact pays ann 0-0 2-3 {thing} 9-9", 2, 5)
        self.wrong(read_book, f"{HEAD}\nfact pays ann", 2, 3)
        for spans, word in (("0-5 6-9", 4), ("0-5 5-9", 4), ("5-9 0-3", 4), ("0-5 0-5", 4), ("0-5 7-9 9-9", 5), ("0-5 7-9 10-10", 5),
                            ("0-5 7-9 ", 5), ("0-5  7-9", 4), ("0-999999 0-0", 4)):
            self.wrong(read_book, f"{HEAD}\nfact pays ann {spans}", 2, word)
        self.assertEqual(read_book(f"{HEAD}\nfact pays ann 0-0 2-2 4-999999").rows, {ANN: ((0, 0), (2, 2), (4, LAST))})

    def test_a_fact_told_already(self):
        self.wrong(read_book, f"{HEAD}\nfact pays ann 0-1\nfact pays bob 0-1\nfact pays ann 5-6", 4, 2)
        self.wrong(read_book, f"{HEAD}\nfact pays ann 0-1\nfact pays ann", 3, 2)
        self.wrong(read_book, f"{HEAD}\nfact pays ann 0-1\nfact pays ann x", 3, 2)

    def test_the_first_line(self):
        self.wrong(read_history, f"{HEAD}\nset pays ann 5 4\nput", 2, 4)
        self.wrong(read_book, f"{HEAD}\nfact pays ann 5-4\nput", 2, 3)
        self.both("relation lives 2\nrelation pays\nput", 1, 2)

    def test_texts_of_any_signs(self):
        chance = dice(4)
        for read, write, text in ((read_history, write_history, HEAD + "\nset lives ann,rome 0 99\nclear pays bob 5 999999"),
                                  (read_book, write_book, HEAD + "\nfact lives ann,rome 3-4\nfact pays ann 0-5 7-7")):
            for _ in range(1500):
                signs = list(text)
                at = chance.randrange(len(signs))
                signs[at:at + chance.choice([0, 1])] = [chance.choice("0 1,-a\nA\u0661")] * chance.choice([0, 1])
                told = "".join(signs)
                try:
                    self.assertEqual(sorted(write(read(told)).split("\n")), sorted(told.split("\n")))
                except BadText as error:
                    lines = told.split("\n")
                    self.assertTrue(0 <= error.word <= len(lines[error.line].split(" ")))


class DrawnTest(unittest.TestCase):
    def test_day_by_day(self):
        for number in range(60):
            chance = dice(number)
            history = History(RELATIONS, some_changes(chance, FACTS, number % 12))
            fact = chance.choice(FACTS)
            for days in ((0, 13), (LAST - 12, LAST), (3, 3), (LAST, LAST), (0, 0)):
                first = chance.randrange(history.last_moment() + 1)
                last = chance.randrange(first, history.last_moment() + 1)
                right = ["".join("#" if history.was_known(fact, day, moment) else "." for day in range(days[0], days[1] + 1))
                         for moment in range(first, last + 1)]
                self.assertEqual(draw_columns(history, fact, days, (first, last)), right)
                self.assertEqual(draw_columns(history, fact, list(days), [first, last]), right)

    def test_a_drawing(self):
        history = History({"pays": 1}, [("set", "pays", ("ann",), 1, 6), ("clear", "pays", ("ann",), 3, 4)])
        self.assertEqual(draw_columns(history, ANN, (0, 8), (0, 2)), [".........", ".######..", ".##..##.."])
        self.assertEqual(draw_columns(history, ANN, (2, 5), (2, 2)), ["#..#"])
        self.assertEqual(draw_columns(history, ("pays", ("bob",)), (2, 5), (1, 2)), ["....", "...."])
        self.assertEqual(draw_columns(history, ANN, (2, 5), (2, 1)), [])
        self.assertEqual(draw_columns(history, ANN, (0, LAST), (1, 1)), [".######" + "." * (LAST - 6)])

    def test_bad_moments(self):
        history = History({"pays": 1}, [("set", "pays", ("ann",), 1, 6)])
        for moment in [*NO_INTEGERS, -1, 2, 10 ** 20]:
            for moments in ((moment, 1), (0, moment), (moment, 99)):
                with self.assertRaises(BadMoment) as caught:
                    draw_columns(history, ANN, (0, 5), moments)
                self.assertIs(caught.exception.moment, moment)
        self.assertEqual(draw_columns(History({"pays": 1}, ()), ANN, (0, 5), (0, 0)), ["......"])


if __name__ == "__main__":
    unittest.main()
