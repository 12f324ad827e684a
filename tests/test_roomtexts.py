"""[111] Texts of rooms."""

import random
import unittest

from stringrooms import roomtexts
from stringrooms.rooms import empty_room
from tests import naive, naive_rooms
from tests.naive import DOUBLE, LINE, LINE_NOUGHT, LOOP, POINT, TWELVE, raised
from tests.test_texts import NO_NUMBERS, NO_TEXTS

ROOM = ((1, 2, 1), (((1, 2),), ((1,), (2,))))
TEXT = "units 1 2 1\ntable 0\nrow 1 2\ntable 1\nrow 1\nrow 2"


class Texts(unittest.TestCase):
    def test_by_hand(self):
        self.assertEqual(roomtexts.room_text(LINE, ROOM), TEXT)
        self.assertEqual(roomtexts.read_room(LINE, 3, TEXT), ROOM)
        for plan, room, text in (
                (POINT, ((0,), ()), "units 0"), (POINT, ((40,), ()), "units 40"),
                (TWELVE, ((0,) * 12, ()), "units" + " 0" * 12), (LINE, ((0, 0, 0), ((), ())), "units 0 0 0\ntable 0\ntable 1"),
                # Rows without numbers, and no rows at all.
                (DOUBLE, ((2, 0), (((), ()), ((), ()))), "units 2 0\ntable 0\nrow\nrow\ntable 1\nrow\nrow"),
                (DOUBLE, ((0, 2), ((), ())), "units 0 2\ntable 0\ntable 1"),
                (LOOP, ((2,), (((0, 1), (0, 0)),)), "units 2\ntable 0\nrow 0 1\nrow 0 0")):
            self.assertEqual(roomtexts.room_text(plan, room), text)
            self.assertEqual(roomtexts.read_room(plan, 2, text), room)

    def test_there_and_back(self):
        rng = random.Random(550)
        for plan in naive.plans_for(551, 150) + [naive.FULL, naive.GREAT]:
            prime = rng.choice(naive.PRIMES)
            rooms = [empty_room(plan)]
            if plan[0] <= 6:
                rooms.append(naive_rooms.drawn_room(rng, plan, prime))
            for room in rooms:
                text = roomtexts.room_text(plan, room)
                self.assertEqual(len(text.split("\n")), 1 + len(plan[1]) + sum(room[0][a] for a, _ in plan[1]))
                self.assertEqual(roomtexts.read_room(plan, prime, text), room)

    def test_no_text(self):
        for value in NO_TEXTS + (ROOM,):
            self.assertEqual(raised(roomtexts.read_room, LINE, 3, value), ("NotText", -1, -1))

    def test_words(self):
        told = {
            "": (0, 0), "unit 1 2 1": (0, 0), "units": (0, 1), "units 1": (0, 2), "units 1 2": (0, 3), "units 1 2 ": (0, 3),
            "units 1 2 1 ": (0, 4), "units 1 2 1 1": (0, 4), "units  1 2 1": (0, 1), "units 1 2 01": (0, 3), "units 1 2 1": (1, 0),
            "units 1 2 1\n": (1, 0), "units 1 2 1\nrow 1 2": (1, 0), "units 1 2 1\ntable": (1, 1), "units 1 2 1\ntable ": (1, 1),
            "units 1 2 1\ntable 1": (1, 1), "units 1 2 1\ntable 00": (1, 1), "units 1 2 1\ntable x": (1, 1),
            "units 1 2 1\ntable 0 ": (1, 2), "units 1 2 1\ntable 0 0": (1, 2), "units 1 2 1\ntable 0": (2, 0),
            "units 1 2 1\ntable 0\ntable 1": (2, 0), "units 1 2 1\ntable 0\nrow": (2, 1), "units 1 2 1\ntable 0\nrow 1": (2, 2),
            "units 1 2 1\ntable 0\nrow 1 2 0": (2, 3), "units 1 2 1\ntable 0\nrow 1 2 ": (2, 3),
            "units 1 2 1\ntable 0\nrow 1 2\nrow 1 2": (3, 0), "units 1 2 1\ntable 0\nrow 1 2\ntable 0": (3, 1),
            "units 1 2 1\ntable 0\nrow 1 2": (3, 0), TEXT[:-6]: (5, 0), TEXT[:-2]: (5, 1), TEXT + "\n": (6, 0),
            TEXT + "\nrow 2": (6, 0), TEXT + "\ntable 2": (6, 0), TEXT + " ": (5, 2), TEXT.replace("row", "rows"): (2, 0),
            TEXT.replace("\n", "\n\n", 1): (1, 0), TEXT.replace(" ", "\t", 1): (0, 0), "\n" + TEXT: (0, 0),
            # What is read is judged only where all can be read.
            "units 999 2 1\ntable 0\nrow 9 9\ntable 1": (3, 0), TEXT.replace("row 1 2", "row 9 9") + "\nx": (6, 0)}
        for text, place in told.items():
            self.assertEqual(raised(roomtexts.read_room, LINE, 3, text), ("NotText",) + place, repr(text))
        for word in NO_NUMBERS:
            self.assertEqual(raised(roomtexts.read_room, POINT, 2, "units " + word)[:3], ("NotText", 0, 1), repr(word))
            text = "units 1\ntable 0\nrow " + word
            self.assertEqual(raised(roomtexts.read_room, LOOP, 2, text)[:3], ("NotText", 2, 1), repr(word))
        self.assertEqual(raised(roomtexts.read_room, POINT, 2, "units 1\ntable 0"), ("NotText", 1, 0))
        self.assertEqual(raised(roomtexts.read_room, POINT, 2, "units 0\nrow"), ("NotText", 1, 0))

    def test_no_room(self):
        self.assertEqual(raised(roomtexts.read_room, POINT, 2, "units 41"), ("NotRoom", "units"))
        self.assertEqual(raised(roomtexts.read_room, POINT, 2, "units 999"), ("NotRoom", "units"))
        self.assertEqual(roomtexts.read_room(POINT, 2, "units 40"), ((40,), ()))
        self.assertEqual(raised(roomtexts.read_room, TWELVE, 2, "units" + " 4" * 11 + " 0"), ("NotRoom", "units"))
        self.assertEqual(raised(roomtexts.read_room, LINE, 2, TEXT), ("NotRoom", "tables"))
        self.assertEqual(raised(roomtexts.read_room, LINE, 7, TEXT.replace("1 2\n", "1 7\n")), ("NotRoom", "tables"))
        self.assertEqual(raised(roomtexts.read_room, LINE_NOUGHT, 3, TEXT), ("NotRoom", "noughts"))
        self.assertEqual(roomtexts.read_room(LINE_NOUGHT, 5, TEXT), ROOM)
        self.assertEqual(raised(roomtexts.read_room, LOOP, 5, "units 1\ntable 0\nrow 1"), ("NotRoom", "noughts"))


if __name__ == "__main__":
    unittest.main()
