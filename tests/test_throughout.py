"""[1] What holds throughout: kinds of results, nothing changed, equal calls with equal results."""

import copy
import random
import unittest

from stringrooms import counting, fields, forms, plans, rounds, walks, ways
from tests import naive


def is_plain(value):
    """Whether a value is an integer, a string, True, False, None or a tuple of such."""
    if isinstance(value, tuple):
        return type(value) is tuple and all(is_plain(entry) for entry in value)
    return value is None or type(value) in (int, str, bool)


def calls(rng, plan):
    """Calls of functions with drawn arguments."""
    walk = naive.drawn_walk(rng, plan, 6)
    point = rng.randrange(plan[0])
    yield from [(f, (plan,)) for f in (
        plans.check_plan, plans.is_plan, plans.turned_plan, forms.parts_of, forms.form_of, forms.symmetry_number,
        ways.way_number, ways.nought_rounds, rounds.has_bands, rounds.a_band, rounds.band_list, rounds.longest,
        rounds.all_strings, counting.growth)]
    yield from [(f, (plan, walk)) for f in (
        walks.check_walk, walks.points_of, walks.end_of, walks.turned, walks.string_of, walks.sizes_of, walks.goings,
        ways.is_way, walks.in_turned_plan, rounds.check_round)]
    yield from [(f, (plan, 4)) for f in (
        walks.strings, walks.strings_upto, rounds.bands, counting.walk_number, counting.string_number,
        counting.string_total, counting.band_number)]
    yield from [(f, (plan, point)) for f in (plans.from_point, ways.ways_from, ways.ways_into)]
    yield (forms.renaming, (plan, plan))
    yield (ways.ways_between, (plan, point, 0))
    yield (forms.sub_plan, (plan, tuple(range(point + 1))))
    if plan[1]:
        arrow = rng.randrange(len(plan[1]))
        yield from [(f, (plan, arrow)) for f in (
            plans.ends_of, plans.next_of, plans.nil_of, plans.ahead_of, plans.nil_ahead_of, plans.mate_of,
            plans.followers, forms.row_from, forms.numbered, forms.without_arrow, ways.longest_from, ways.nil_row)]
        yield (plans.may_follow, (plan, arrow, -1))
        yield (counting.between, (plan, arrow, -1, 9))
    row = naive.drawn_round(rng, plan, 8)
    if row:
        yield from [(f, (plan, row)) for f in (rounds.check_round, rounds.band_of, rounds.band_place)]
        yield from [(rounds.turned_round, (row,)), (rounds.begun_at, (row, len(row) - 1))]
    prime = rng.choice(naive.PRIMES)
    poly = (rng.randrange(1, prime),) + tuple(rng.randrange(prime) for _ in range(rng.randint(0, 5)))
    yield from [(f, (prime, poly)) for f in (
        fields.check_poly, fields.is_irreducible, fields.factors, fields.power_of, fields.undone)]
    yield from [(fields.poly_times, (prime, poly, poly)), (fields.poly_power, (prime, poly, 3)),
                (fields.irreducible_number, (prime, 3)), (fields.irreducibles, (prime, 2))]
    rows = tuple(tuple(rng.randrange(prime) for _ in range(3)) for _ in range(4))
    yield from [(f, (rows, prime)) for f in (fields.reduced, fields.rank, fields.kernel)]


class Throughout(unittest.TestCase):
    def test_calls(self):
        rng = random.Random(80)
        for plan in naive.plans_for(80, 40):
            for function, told in calls(rng, plan):
                before = copy.deepcopy(told)
                results = [naive.raised(function, *told) for _ in range(2)]
                self.assertEqual(told, before, function)
                self.assertEqual(results[0], results[1], function)
                self.assertTrue(is_plain(results[0]), (function, results[0]))


if __name__ == "__main__":
    unittest.main()
