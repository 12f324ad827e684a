"""[13], [14], [15] Plans taken apart, put beside one another, and compared up to renaming."""

import itertools
import random
import unittest

from stringrooms import forms
from stringrooms.plans import check_plan, is_plan, renamed
from tests import naive
from tests.naive import raised


def shuffled(rng, plan):
    points, arrows = list(range(plan[0])), list(range(len(plan[1])))
    rng.shuffle(points)
    rng.shuffle(arrows)
    return renamed(plan, tuple(points), tuple(arrows))


def renamings(plan, other):
    """All renamings that lead from a small plan to another one, by trying each."""
    if plan[0] != other[0] or len(plan[1]) != len(other[1]):
        return []
    return [(p, a) for p in itertools.permutations(range(plan[0]))
            for a in itertools.permutations(range(len(plan[1]))) if renamed(plan, p, a) == other]


def hanging(plan):
    """The lots of points that hang together, by joining lots."""
    lots = [{p} for p in range(plan[0])]
    for start, end in plan[1]:
        one = next(lot for lot in lots if start in lot)
        other = next(lot for lot in lots if end in lot)
        if one is not other:
            one |= other
            lots.remove(other)
    return tuple(sorted(tuple(sorted(lot)) for lot in lots))


class Rows(unittest.TestCase):
    def test_by_hand(self):
        # next, nil, the other one that ends there, ahead, nil ahead, the other one that begins there.
        plan = (5, ((0, 2), (1, 2), (2, 3), (2, 4), (1, 0)), ((0, 3), (1, 2)))
        check_plan(plan)
        self.assertEqual(forms.row_from(plan, 0), (0, 2, 3, 1, 4))
        self.assertEqual(forms.row_from(plan, 1), (1, 3, 2, 0, 4))
        self.assertEqual(forms.row_from(plan, 3), (3, 1, 0, 2, 4))
        self.assertEqual(forms.numbered(plan, 4),
                         (5, ((0, 1), (1, 2), (0, 2), (2, 3), (2, 4)), ((1, 4), (2, 3))))
        self.assertEqual(forms.row_from(naive.LOOP, 0), (0,))
        self.assertEqual(forms.numbered(naive.LOOP, 0), naive.LOOP)

    def test_one_part_alone(self):
        plan = (5, ((4, 2), (0, 1), (3, 2)), ())
        self.assertEqual(forms.row_from(plan, 1), (1,))
        self.assertEqual(forms.numbered(plan, 1), (2, ((0, 1),), ()))
        self.assertEqual(forms.numbered(plan, 2), (3, ((0, 1), (2, 1)), ()))

    def test_rows_reach_all(self):
        for plan in naive.plans_for(20, 60):
            for arrow in range(len(plan[1])):
                row = forms.row_from(plan, arrow)
                lot = next(lot for lot in hanging(plan) if plan[1][arrow][0] in lot)
                self.assertEqual(row[0], arrow)
                self.assertEqual(sorted(row), [a for a, e in enumerate(plan[1]) if e[0] in lot])
                told = forms.numbered(plan, arrow)
                self.assertTrue(is_plan(told))
                self.assertEqual(told[0], len(lot))
                self.assertEqual(forms.row_from(told, 0), tuple(range(len(row))))
                self.assertEqual(forms.numbered(told, 0), told)


class Parts(unittest.TestCase):
    def test_parts_of(self):
        self.assertEqual(forms.parts_of((5, ((4, 2), (0, 3)), ())), ((0, 3), (1,), (2, 4)))
        self.assertEqual(forms.parts_of(naive.TWELVE), tuple((p,) for p in range(12)))
        for plan in naive.plans_for(21, 80, 9):
            self.assertEqual(forms.parts_of(plan), hanging(plan))

    def test_sub_plan(self):
        plan = naive.CHAINED
        self.assertEqual(forms.sub_plan(plan, (1, 2, 3)), (3, ((0, 1), (1, 2), (1, 2)), ((0, 2),)))
        self.assertEqual(forms.sub_plan(plan, (0, 3)), (2, (), ()))
        self.assertEqual(forms.sub_plan(plan, (0, 1, 2, 3)), plan)
        rng = random.Random(22)
        for plan in naive.plans_for(22, 60):
            points = tuple(sorted(rng.sample(range(plan[0]), rng.randint(1, plan[0]))))
            kept = [a for a, e in enumerate(plan[1]) if e[0] in points and e[1] in points]
            told = forms.sub_plan(plan, points)
            self.assertTrue(is_plan(told) or not is_plan(plan))
            self.assertEqual(told[0], len(points))
            self.assertEqual([(points[a], points[b]) for a, b in told[1]], [plan[1][a] for a in kept])
            self.assertEqual([(kept[a], kept[b]) for a, b in told[2]],
                             [pair for pair in plan[2] if pair[0] in kept and pair[1] in kept])

    def test_without_arrow(self):
        self.assertEqual(forms.without_arrow(naive.CHAINED, 2), (4, ((0, 1), (0, 1), (2, 3), (2, 3)), ()))
        self.assertEqual(forms.without_arrow(naive.CHAINED, 0),
                         (4, ((0, 1), (1, 2), (2, 3), (2, 3)), ((0, 1), (1, 3))))
        self.assertEqual(forms.without_arrow(naive.LOOP, 0), naive.POINT)

    def test_beside(self):
        self.assertEqual(forms.beside(naive.LOOP, naive.RING),
                         (4, ((0, 0), (1, 2), (2, 3), (3, 1)), ((0, 0), (1, 2), (2, 3), (3, 1))))
        eleven = (11, ((3, 4),), ())
        self.assertEqual(forms.beside(eleven, naive.LOOP), (12, ((3, 4), (11, 11)), ((1, 1),)))
        self.assertEqual(raised(forms.beside, eleven, naive.DOUBLE), ("TooGreat", 12))
        self.assertEqual(raised(forms.beside, naive.TWELVE, naive.POINT), ("TooGreat", 12))


class Forms(unittest.TestCase):
    def test_by_hand(self):
        self.assertEqual(forms.form_of(naive.TWELVE), naive.TWELVE)
        self.assertEqual(forms.form_of((3, ((2, 0),), ())), (3, ((1, 2),), ()))
        self.assertEqual(forms.symmetry_number(naive.TWELVE), 479001600)
        self.assertEqual(forms.symmetry_number(naive.DOUBLE), 2)
        self.assertEqual(forms.symmetry_number(naive.RING), 3)
        self.assertEqual(forms.symmetry_number(naive.FORK), 2)
        self.assertEqual(forms.symmetry_number(naive.LINE), 1)
        self.assertEqual(forms.symmetry_number((6, ((0, 1), (0, 1), (5, 4), (5, 4)), ())), 16)

    def test_form_is_the_least_numbered(self):
        for plan in naive.plans_for(23, 60):
            several = []
            for lot in hanging(plan):
                row = [a for a, e in enumerate(plan[1]) if e[0] in lot]
                several.append(min([forms.numbered(plan, a) for a in row]) if row else (1, (), ()))
            told = None
            for part in sorted(several):
                told = part if told is None else forms.beside(told, part)
            self.assertEqual(forms.form_of(plan), told)

    def test_forms_tell_renamed_plans(self):
        rng = random.Random(24)
        plans = naive.plans_for(24, 60) + [naive.FULL]
        for plan in plans:
            other = shuffled(rng, plan)
            self.assertEqual(forms.form_of(plan), forms.form_of(other))
            points, arrows = forms.renaming(plan, other)
            self.assertEqual(renamed(plan, points, arrows), other)
            self.assertEqual(renamed(other, *forms.renaming(other, forms.form_of(plan))), forms.form_of(plan))
            self.assertEqual(forms.symmetry_number(plan), forms.symmetry_number(other))
        for plan in plans:
            for other in plans[:20]:
                told = forms.renaming(plan, other)
                self.assertEqual(told is not None, forms.form_of(plan) == forms.form_of(other))

    def test_renamings_by_trying_each(self):
        rng = random.Random(25)
        small = [plan for plan in naive.plans_for(25, 120, 4) if len(plan[1]) <= 5 and plan[0] <= 4]
        for plan in small:
            self.assertEqual(forms.symmetry_number(plan), len(renamings(plan, plan)), plan)
            other = rng.choice(small)
            self.assertEqual(forms.renaming(plan, other) is None, not renamings(plan, other))


class Small(unittest.TestCase):
    def test_numbers(self):
        self.assertEqual([len(forms.small_plans(size)) for size in (1, 2, 3)], [2, 12, 99])
        self.assertEqual(forms.small_plans(1), ((1, (), ()), (1, ((0, 0),), ((0, 0),))))

    def test_forms_ascending(self):
        for size in (1, 2, 3):
            told = forms.small_plans(size)
            self.assertEqual(list(told), sorted(set(told)))
            for plan in told:
                self.assertTrue(is_plan(plan))
                self.assertEqual(plan[0], size)
                self.assertEqual(forms.form_of(plan), plan)

    def test_all_of_two_points(self):
        found = set()
        pairs = list(itertools.product(range(2), repeat=2))
        for many in range(5):
            for arrows in itertools.combinations_with_replacement(pairs, many):
                meeting = [(a, b) for a in range(many) for b in range(many) if arrows[a][1] == arrows[b][0]]
                for told in range(2 ** len(meeting)):
                    noughts = tuple(pair for k, pair in enumerate(meeting) if told >> k & 1)
                    if naive.is_gentle((2, arrows, noughts)):
                        found.add(forms.form_of((2, arrows, noughts)))
        self.assertEqual(forms.small_plans(2), tuple(sorted(found)))

    def test_drawn_ones_are_among_them(self):
        told = forms.small_plans(3)
        seen = {forms.form_of(plan) for plan in naive.drawn_plans(26, 1500, 3, 3)}
        self.assertTrue(seen <= set(told))
        self.assertGreater(len(seen), 70)


if __name__ == "__main__":
    unittest.main()
