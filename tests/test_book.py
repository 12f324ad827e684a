"""[116], [117] The book."""

import random
import unittest

from stringrooms.book import Book
from stringrooms.exchanges import exchange_step, exchanges
from stringrooms.lots import least_lot, most_lot
from stringrooms.rounds import has_bands
from tests import naive, naive_lots
from tests.naive import DOUBLE, LINE, LOOP, POINT, TWELVE, raised

A, B, C = (0, ()), (1, ()), (0, (0,))
ARROW = (2, ((0, 1),), ())


def told(book):
    """All that a book tells."""
    return (book.plan, book.start, book.lot, book.numbers(), book.lots(), book.pieces(), book.names())


class Kept:
    """What a book should be: rows of numbers."""

    def __init__(self, plan, start):
        self.plan, self.start, self.row, self.back, self.marks = plan, start, [], [], {}

    def copy(self):
        other = Kept(self.plan, self.start)
        other.row, other.back, other.marks = list(self.row), list(self.back), dict(self.marks)
        return other

    def told(self):
        lots, pieces = [self.start], []
        for number in self.row:
            lot, _, piece, way, _ = exchange_step(self.plan, lots[-1], number)
            lots.append(lot)
            pieces.append((piece, way))
        return (self.plan, self.start, lots[-1], tuple(self.row), tuple(lots), tuple(pieces), tuple(sorted(self.marks)))


class Begun(unittest.TestCase):
    def test_attributes(self):
        for plan in naive.plans_for(580, 60, 4):
            book = Book(plan)
            self.assertEqual(book.plan, plan)
            self.assertEqual(book.start, most_lot(plan))
            self.assertEqual(book.lot, book.start)
            self.assertEqual((book.numbers(), book.lots(), book.pieces(), book.names()), ((), (book.start,), (), ()))
            least = least_lot(plan)
            for other in (Book(plan, least), Book(plan, lot=least), Book(lot=least, plan=plan)):
                self.assertEqual((other.start, other.lot), (least, least))
            self.assertEqual(Book(plan, None).start, most_lot(plan))

    def test_few(self):
        for lot in (((), ()), ((), (0,)), ((A,), ()), ((), (0, 1))):
            self.assertEqual(raised(Book, LINE, lot), ("NotLot", "few"))
        self.assertEqual(raised(Book, POINT, ((), ())), ("NotLot", "few"))

    def test_lot_is_read_alone(self):
        with self.assertRaises(AttributeError):
            Book(POINT).lot = ((), (0,))


class Deeds(unittest.TestCase):
    def test_by_hand(self):
        book = Book(ARROW)
        self.assertEqual(book.start, ((C, B), ()))
        self.assertEqual(book.exchange(0), ("less", 0))
        self.assertEqual(book.lot, ((B,), (0,)))
        self.assertEqual(book.pieces(), ((A, -1),))
        self.assertEqual(book.exchange(0), ("less", 1))
        self.assertEqual(book.lot, ((), (0, 1)))
        self.assertEqual(book.numbers(), (0, 0))
        self.assertIsNone(book.undo())
        self.assertEqual(book.lot, ((B,), (0,)))
        self.assertIsNone(book.redo())
        self.assertEqual(book.lot, ((), (0, 1)))
        self.assertIsNone(book.mark("low"))
        self.assertIsNone(book.undo())
        self.assertIsNone(book.undo())
        self.assertEqual(raised(book.undo), ("NoWay",))
        self.assertEqual(book.lot, book.start)
        self.assertIsNone(book.mark("top"))
        self.assertEqual(book.names(), ("low", "top"))
        # Giving a name forgets nothing that was taken back; going to one does.
        self.assertIsNone(book.redo())
        self.assertEqual(book.numbers(), (0,))
        self.assertIsNone(book.go("low"))
        self.assertEqual(book.numbers(), (0, 0))
        self.assertEqual(raised(book.redo), ("NoWay",))
        self.assertIsNone(book.go("top"))
        self.assertEqual((book.numbers(), book.lot), ((), book.start))
        self.assertEqual(raised(book.undo), ("NoWay",))
        self.assertEqual(raised(book.redo), ("NoWay",))
        self.assertEqual(book.exchange(1), ("string", A))
        self.assertEqual(book.lots(), (((C, B), ()), ((A, C), ())))
        self.assertEqual(book.pieces(), ((B, -1),))
        # A name given anew means what is in force now.
        self.assertIsNone(book.mark("low"))
        self.assertIsNone(book.go("top"))
        self.assertIsNone(book.go("low"))
        self.assertEqual(book.numbers(), (1,))

    def test_exchange_forgets(self):
        book = Book(LINE)
        book.exchange(0)
        book.undo()
        book.exchange(1)
        self.assertEqual(raised(book.redo), ("NoWay",))
        self.assertEqual(book.numbers(), (1,))

    def test_refused(self):
        book = Book(LINE)
        book.exchange(2)
        book.mark("a")
        book.exchange(0)
        book.undo()
        before = told(book)
        for number in (-1, 3, 10 ** 30, True, False, None, "0", 0.0, (0,), [], {}):
            self.assertEqual(raised(book.exchange, number), ("NotName", number))
            self.assertEqual(raised(book.tried, (number,)), ("NotName", number))
            self.assertEqual(raised(book.tried, (0, number, -7)), ("NotName", number))
        for name in ("", "A", "aB", "a1", "a b", "a" * 21, "\u00e4", "a\n", 1, None, True, b"a", ("a",), ["a"], {}):
            self.assertEqual(raised(book.mark, name), ("NotName", name))
        for name in ("b", "", "A", "aa", 1, None, b"a", ("a",), ["a"], {}):
            self.assertEqual(raised(book.go, name), ("NotName", name))
        self.assertEqual(told(book), before)
        # What was taken back is still there.
        self.assertIsNone(book.redo())
        self.assertEqual(book.numbers(), (2, 0))
        for name in ("a" * 20, "z", "az"):
            self.assertIsNone(book.mark(name))
            self.assertIsNone(book.go(name))

    def test_too_great_leaves_it(self):
        # Along two arrows side by side strings grow with each exchange.
        book = Book(DOUBLE)
        number = 0
        while True:
            told_now, tries = told(book), [raised(book.tried, (k,)) for k in (0, 1)]
            great = [k for k in (0, 1) if tries[k] == ("TooGreat", 400)]
            if great:
                break
            longest = [max([len(s[1]) for s in tries[k][1][0]], default=0) for k in (0, 1)]
            book.exchange(0 if longest[0] >= longest[1] else 1)
            number += 1
            self.assertLess(number, 300)
        k = great[0]
        book.undo()
        book.redo()
        book.exchange(1 - k)
        book.undo()
        self.assertEqual(told(book)[:6], told_now[:6])
        self.assertEqual(raised(book.exchange, k), ("TooGreat", 400))
        self.assertEqual(raised(book.tried, (k, 99)), ("TooGreat", 400))
        self.assertEqual(raised(book.tried, (99, k)), ("NotName", 99))
        self.assertEqual(told(book)[:6], told_now[:6])
        self.assertIsNone(book.redo())
        self.assertEqual(book.numbers()[-1], 1 - k)

    def test_tried(self):
        book = Book(LINE)
        self.assertEqual(book.tried(()), book.start)
        self.assertEqual(book.tried((0, 1, 2)), exchanges(LINE, book.start, (0, 1, 2)))
        book.exchange(1)
        book.exchange(2)
        book.undo()
        before = told(book)
        self.assertEqual(book.tried((0, 0)), exchanges(LINE, book.start, (1, 0, 0)))
        self.assertEqual(told(book), before)
        self.assertIsNone(book.redo())

    def test_copies(self):
        book = Book(LINE)
        book.exchange(0)
        book.mark("a")
        book.exchange(1)
        book.undo()
        other = book.copy()
        self.assertIsInstance(other, Book)
        before = told(book)
        self.assertEqual(told(other), before)
        other.redo()
        self.assertEqual(other.numbers(), (0, 1))
        other.mark("b")
        other.mark("a")
        other.undo()
        other.undo()
        self.assertEqual(told(book), before)
        self.assertIsNone(book.redo())
        book.go("a")
        self.assertEqual(book.numbers(), (0,))
        self.assertEqual(book.names(), ("a",))
        other.go("a")
        self.assertEqual((other.numbers(), other.names()), ((0, 1), ("a", "b")))

    def test_equal_calls(self):
        for plan in (POINT, LOOP, TWELVE, naive.FULL):
            rows = []
            for _ in range(2):
                book = Book(plan)
                rows.append([raised(book.exchange, number % plan[0]) for number in (0, 5, 2, 2)] + [told(book)])
            self.assertEqual(rows[0], rows[1])


class Rows(unittest.TestCase):
    def test_drawn_deeds(self):
        rng = random.Random(581)
        met = {}
        plans = [plan for plan in naive.plans_for(582, 60, 4) if plan[0] <= 5] + [DOUBLE, naive.CHAINED, naive.TAILED]
        for plan in plans:
            start = naive_lots.drawn_lot(rng, plan, 2)
            pairs = [(Book(plan, start), Kept(plan, start))]
            for _ in range(25):
                book, kept = rng.choice(pairs)
                self.deed(rng, book, kept, pairs, met)
                self.assertEqual(told(book), kept.told())
                self.assertEqual(book.lot, exchanges(plan, book.start, book.numbers()))
            for book, kept in pairs:
                self.assertEqual(told(book), kept.told())
        self.assertEqual(len(met), 12, met)

    def deed(self, rng, book, kept, pairs, met):
        """One drawn deed, done with the book and with what it should be."""
        kind = rng.choice(("exchange", "exchange", "undo", "redo", "mark", "go", "tried", "copy", "none"))
        if kind == "exchange" and len(kept.row) < 12:
            number = rng.randrange(kept.plan[0])
            step = raised(exchange_step, kept.plan, book.lot, number)
            result = raised(book.exchange, number)
            if step[0] == "TooGreat":
                self.assertEqual(result, step)
            else:
                self.assertEqual(result, ("nothing raised", step[1][1]))
                kept.row.append(number)
                kept.back = []
                kind = "band" if has_bands(kept.plan) else kind
        elif kind in ("undo", "redo"):
            one, two = (kept.row, kept.back) if kind == "undo" else (kept.back, kept.row)
            self.assertEqual(raised(getattr(book, kind)), ("nothing raised", None) if one else ("NoWay",))
            kind += str(bool(one))
            if one:
                two.append(one.pop())
        elif kind == "mark":
            name = rng.choice("abc")
            self.assertIsNone(book.mark(name))
            kept.marks[name] = list(kept.row)
        elif kind == "go":
            name = rng.choice("abc")
            result = raised(book.go, name)
            self.assertEqual(result, ("nothing raised", None) if name in kept.marks else ("NotName", name))
            kind += str(name in kept.marks)
            if name in kept.marks:
                kept.row, kept.back = list(kept.marks[name]), []
        elif kind == "tried":
            row = tuple(rng.randrange(kept.plan[0]) for _ in range(rng.randint(0, 3)))
            self.assertEqual(raised(book.tried, row), raised(exchanges, kept.plan, book.lot, row))
        elif kind == "copy" and len(pairs) < 3:
            pairs.append((book.copy(), kept.copy()))
        else:
            kind = "none"
            self.assertEqual(raised(book.exchange, kept.plan[0]), ("NotName", kept.plan[0]))
        met[kind] = met.get(kind, 0) + 1


if __name__ == "__main__":
    unittest.main()
