"""[1] What holds throughout: kinds of results, nothing changed, equal calls with equal results."""

import copy
import importlib
import inspect
import random
import unittest

from stringrooms import apart, bending, bentrooms, blossoms, bricks, chainnumbers, chains, claims, closed, counting
from stringrooms import coverchains, duals, exchanges, farbends, farrests, fields, forms, glue, homs, hulltables, kisses
from stringrooms import layers, lotlists, lots, making, maps, nets, peace, pieces, plans, remains, rests, roads
from stringrooms import roomlists, rooms, roomtexts, rounds, sheets, sizeforms, sizes, tables, texts, threads
from stringrooms import translating, tubes, walks, waypolynomials, ways, waytables
from tests import naive, naive_chains, naive_lots, naive_rooms, test_claims, test_interface


def is_plain(value):
    """Whether a value is an integer, a string, True, False, None or a tuple of such."""
    if isinstance(value, tuple):
        return type(value) is tuple and all(is_plain(entry) for entry in value)
    return value is None or type(value) in (int, str, bool)


def calls(rng, plan):
    """Calls of functions with drawn arguments."""
    walk = naive.drawn_walk(rng, plan, 6)
    point = rng.randrange(plan[0])
    yield from [(f, (plan,)) for f in (
        plans.check_plan, plans.is_plan, plans.turned_plan, forms.parts_of, forms.form_of, forms.symmetry_number,
        ways.way_number, ways.nought_rounds, rounds.has_bands, rounds.a_band, rounds.band_list, rounds.longest,
        rounds.all_strings, counting.growth)]
    yield from [(f, (plan, walk)) for f in (
        walks.check_walk, walks.points_of, walks.end_of, walks.turned, walks.string_of, walks.sizes_of, walks.goings,
        ways.is_way, walks.in_turned_plan, rounds.check_round)]
    yield from [(f, (plan, 4)) for f in (
        walks.strings, walks.strings_upto, rounds.bands, counting.walk_number, counting.string_number,
        counting.string_total, counting.band_number)]
    yield from [(f, (plan, point)) for f in (plans.from_point, ways.ways_from, ways.ways_into)]
    yield (forms.renaming, (plan, plan))
    about = (tuple(range(plan[0]))[::-1], tuple(range(len(plan[1])))[::-1])
    yield from [(plans.renamed, (plan, *about)), (plans.renamed, (plan, (), 7)), (forms.beside, (plan, plan)),
                (walks.in_renamed_plan, (plan, walk, *about)), (forms.small_plans, (rng.randint(1, 2),))]
    yield from [(f, (plan, walk, naive.drawn_walk(rng, plan, 3))) for f in (walks.joined, ways.way_behind)]
    yield from [(fields.check_prime, (rng.randrange(9),)), (fields.undone_number, (7, rng.randrange(-9, 99)))]
    yield (ways.ways_between, (plan, point, 0))
    yield (forms.sub_plan, (plan, tuple(range(point + 1))))
    if plan[1]:
        arrow = rng.randrange(len(plan[1]))
        yield from [(f, (plan, arrow)) for f in (
            plans.ends_of, plans.next_of, plans.nil_of, plans.ahead_of, plans.nil_ahead_of, plans.mate_of,
            plans.followers, forms.row_from, forms.numbered, forms.without_arrow, ways.longest_from, ways.nil_row)]
        yield (plans.may_follow, (plan, arrow, -1))
        yield (counting.between, (plan, arrow, -1, 9))
    row = naive.drawn_round(rng, plan, 8)
    if row:
        yield from [(f, (plan, row)) for f in (rounds.check_round, rounds.band_of, rounds.band_place)]
        yield from [(rounds.turned_round, (row,)), (rounds.begun_at, (row, len(row) - 1))]
    prime = rng.choice(naive.PRIMES)
    poly = (rng.randrange(1, prime),) + tuple(rng.randrange(prime) for _ in range(rng.randint(0, 5)))
    yield from [(f, (prime, poly)) for f in (
        fields.check_poly, fields.is_irreducible, fields.factors, fields.power_of, fields.undone)]
    yield from [(fields.poly_times, (prime, poly, poly)), (fields.poly_power, (prime, poly, 3)),
                (fields.irreducible_number, (prime, 3)), (fields.irreducibles, (prime, 2))]
    rows = tuple(tuple(rng.randrange(prime) for _ in range(3)) for _ in range(4))
    yield from [(f, (rows, prime)) for f in (fields.reduced, fields.rank, fields.kernel)]


def room_calls(rng, plan):
    """Calls of the functions of rooms, maps and translated strings with drawn arguments."""
    prime = rng.choice(naive.PRIMES)
    square = naive_rooms.drawn_table(rng, prime, 3, 3)
    yield from [(f, (square, prime)) for f in (
        tables.undo, tables.determinant, tables.own_poly, tables.least_poly, tables.divisors)]
    yield from [(tables.flipped, (square, 3)), (tables.times, (square, square, prime, 3)), (tables.one, (3,)),
                (tables.solved, (square, prime, square[2])), (tables.power, (square, prime, 10 ** 30)),
                (tables.poly_at, (square, prime, (1, 1))), (tables.poly_table, (prime, (1, 1))),
                (tables.span, (square[:1], square[1:], prime)), (tables.meet, (square[:2], square[1:], prime)),
                (tables.free_places, (square, prime, 3)),
                (tables.rest_row, (square[0], fields.reduced(square[1:], prime), prime))]
    walk, other = naive.drawn_walk(rng, plan, 6), naive.drawn_walk(rng, plan, 6)
    room = naive_rooms.drawn_room(rng, plan, prime)
    goal = rooms.string_room(plan, other)
    lot = rooms.led(plan, prime, room, tuple(naive_rooms.drawn_table(rng, prime, 1, n) for n in room[0]))
    parts = naive_rooms.drawn_parts(rng, plan, prime, 10, 3) + (("string", walk),)
    yield from [(f, (plan, prime, room)) for f in (
        rooms.check_room, rooms.dual_room, rooms.common, rooms.reached, apart.strings_in, apart.rounds_in,
        apart.parts_of_room, homs.apart_map)]
    yield from [(f, (plan, prime, room, lot)) for f in (rooms.led, rooms.is_closed, rooms.sub_room, rooms.left_room)]
    yield from [(f, (plan, prime, room, walk)) for f in (apart.pairs_along, apart.number_along)]
    yield from [(f, (plan, prime, room, goal)) for f in (
        homs.map_basis, homs.map_size, homs.alike_map, apart.alike)]
    yield from [(rooms.empty_room, (plan,)), (rooms.sum_room, (plan, (room, goal))),
                (rooms.parts_room, (plan, prime, parts)), (rooms.part_room, (plan, prime, parts[0])),
                (rooms.way_table, (plan, prime, room, 0, ())),
                (rooms.changed, (plan, prime, room, tuple(naive_rooms.eye(n) for n in room[0]))),
                (homs.split, (plan, prime, rooms.parts_room(plan, prime, parts[-1:]), parts[-1])),
                (pieces.part_number, (plan, prime, parts[0], parts[-1]))]
    zero = tuple(tuple((0,) * b for _ in range(a)) for a, b in zip(room[0], goal[0]))
    yield from [(f, (plan, prime, room, goal, zero)) for f in (
        homs.is_map, homs.is_alike_map, homs.map_kernel, homs.map_image)]
    back = tuple(tuple((0,) * b for _ in range(a)) for a, b in zip(goal[0], room[0]))
    yield (homs.after, (plan, prime, room, goal, room, zero, back))
    yield from [(f, (plan, walk)) for f in (
        rooms.place_units, rooms.string_room, pieces.let_go, pieces.taken_in, maps.own_pairs, maps.is_brick,
        maps.vanishing, layers.tops, layers.low_places, layers.cover_points, layers.hull_points, layers.sub_strings,
        layers.let_go_strings, layers.closed_number, layers.closed_sets, layers.depths, layers.heights, layers.layers,
        layers.feet, layers.layer_number, translating.hooks, translating.pulled, translating.forth, translating.back,
        translating.middle, translating.back_middle, translating.almost_split, roads.grows)]
    yield from [(f, (plan, walk, 9)) for f in (
        translating.forth_times, roads.road, roads.road_back, roads.rows_of)]
    yield from [(pieces.piece_of, (plan, walk, 0, 0)), (layers.set_strings, (plan, walk, ())),
                (layers.way_rank, (plan, walk, walk[0], ())), (layers.hull_of, (plan, walk[0])),
                (pieces.map_pairs, (plan, walk, other)), (pieces.map_number, (plan, walk, other)),
                (maps.through, (plan, walk, walk, other))]
    pairs = pieces.map_pairs(plan, walk, other)
    if pairs:
        whole = (0, len(other[1]), 0, len(other[1]), 1)
        yield from [(f, (plan, walk, other, pairs[0])) for f in (
            maps.pair_map, maps.parts_of, maps.is_onto, maps.is_one_to_one)]
        yield (maps.behind, (plan, walk, other, other, pairs[0], whole))
        yield (maps.told_by, (plan, prime, walk, other, maps.pair_map(plan, walk, other, pairs[0])))
    row = naive.drawn_round(rng, plan, 6)
    if row:
        yield from [(f, (plan, row)) for f in (layers.round_tops, layers.round_low_places)]
        yield from [(f, (plan, row, 9)) for f in (pieces.round_let_go, pieces.round_taken_in)]
        yield from [(pieces.pairs_to_round, (plan, walk, row)), (pieces.pairs_from_round, (plan, row, walk)),
                    (pieces.pairs_of_rounds, (plan, row, row)), (rooms.band_room, (plan, prime, row, (1, 0))),
                    (apart.round_divisors, (plan, prime, room, row))]


def bend_calls(rng, plan):
    """Calls of the functions of rests, bends, nets, tubes, peace, long walks and kisses with drawn arguments."""
    prime = rng.choice(naive.PRIMES)
    walk, other = naive.drawn_walk(rng, plan, 6), naive.drawn_walk(rng, plan, 6)
    yield from [(f, (plan, walk)) for f in (
        rests.rest_parts, rests.rest_of, peace.sign_of, peace.is_peaceful, blossoms.long_walk, blossoms.check_long)]
    yield from [(f, (plan, walk, other)) for f in (
        bending.bends, bending.arrow_sums, bending.crossing_sums, bending.middle_rooms, bending.has_bent, nets.distance,
        peace.stops, peace.are_peaceful)]
    yield from [(f, (plan,)) for f in (
        nets.net, nets.net_steps, nets.meshes, nets.covers_in, nets.hulls_in, nets.net_parts, nets.map_table,
        blossoms.blossomed, blossoms.long_ways)]
    yield from [(f, (plan, walk[0])) for f in (rests.cover_of, blossoms.long_mark)]
    yield from [(rests.tail_of, (plan, arrow)) for arrow in range(len(plan[1]))]
    yield from [(peace.peaceful, (plan, 4)), (peace.signed, (plan, peace.sign_of(plan, walk), 6)),
                (nets.knits, (plan, ((1,),))), (tubes.tube, (prime, (1,), 4)), (tubes.band_middle, (prime, (0, -2), (1,)))]
    room, goal = rooms.string_room(plan, walk), rooms.string_room(plan, other)
    yield from [(f, (plan, prime, room, goal)) for f in (bentrooms.bent_number, bentrooms.bent_basis)]
    zero = tuple(tuple((0,) * goal[0][b] for _ in range(room[0][a])) for a, b in plan[1])
    yield from [(bentrooms.bent_room, (plan, prime, room, goal, bend)) for bend in (zero, ())]
    for part in naive_rooms.drawn_parts(rng, plan, prime, 10, 3):
        yield from [(f, (plan, prime, part, ("string", walk))) for f in (bentrooms.band_bends,)]
        yield (peace.part_stops, (plan, prime, part, walk))
        if part[0] == "band":
            yield (rests.round_rest, (plan, part[1]))
    value, over = blossoms.long_walk(plan, walk), blossoms.long_walk(plan, other)
    yield from [(f, (plan, value)) for f in (blossoms.check_long, blossoms.short_of, blossoms.long_sign)]
    yield from [(f, (plan, value, over)) for f in (kisses.kissing, kisses.kisses)]


def lot_calls(rng, plan):
    """Calls of the functions of lots, exchanges, closed sets, bricks, far rests and tables of ways with drawn arguments."""
    prime = rng.choice(naive.PRIMES)
    lot, other = naive_lots.drawn_lot(rng, plan, 3), naive_lots.drawn_lot(rng, plan, 3)
    part = naive_lots.some_of(rng, lot)
    walk, above = naive.drawn_walk(rng, plan, 6), naive.drawn_walk(rng, plan, 6)
    for one in (lot, part):
        yield from [(f, (plan, one)) for f in (
            lots.check_lot, lots.is_full, lots.sign_rows, lots.completed, lots.completed_least, exchanges.greatest,
            lotlists.lots_with, bricks.steps_down, bricks.steps_up)]
        yield from [(lots.written, (plan, one, tuple(range(plan[0])))), (exchanges.exchange_step, (plan, one, 0)),
                    (exchanges.exchange, (plan, one, 0)), (exchanges.exchanges, (plan, one, (0, plan[0] - 1)))]
    yield from [(f, (plan,)) for f in (
        lots.most_lot, lots.least_lot, lotlists.all_lots, bricks.bricks, bricks.brick_sets, farrests.lasting,
        farrests.plan_depth, waytables.way_table, waytables.way_determinant, waytables.undone_ways)]
    yield from [(lotlists.lot_at, (plan, tuple(range(plan[0])))), (making.makes, (plan, lot, walk)),
                (making.reach, (plan, lot[0], walk)), (making.first_part, (plan, lot, walk)), (making.made, (plan, lot)),
                (making.over, (plan, lot, other)), (bricks.bricks_upto, (plan, 4))]
    yield from [(making.part_made, (plan, prime, lot, one)) for one in naive_rooms.drawn_parts(rng, plan, prime, 10, 3)]
    some = tuple(sorted({naive.string(plan, walk), naive.string(plan, above)}))
    yield from [(f, (plan, some)) for f in (
        closed.free_of, closed.before, closed.closed_by, closed.is_closed, closed.lot_made, bricks.are_apart,
        bricks.lot_of_bricks)]
    yield from [(f, (plan, lot, other)) for f in (closed.meet, closed.join)]
    yield from [(f, (plan, walk, steps)) for f in (farrests.far_rest, farrests.far_tails) for steps in (1, 3, 10 ** 30)]
    yield from [(f, (plan, walk)) for f in (farrests.rest_length, farrests.rest_ring)]
    yield from [(f, (plan, walk, above)) for f in (farbends.bends_row, farbends.bends_form)]
    yield from [(farbends.far_bends, (plan, walk, above, steps)) for steps in (0, 1, 10 ** 30)]
    yield from [(f, (plan, steps)) for f in (waytables.ways_of_length, waytables.nothings_of_length)
                for steps in (0, 2, 10 ** 30)]


def chain_calls(rng, plan):
    """Calls of the functions of hull tables, threads, chains and exchanged plans with drawn arguments."""
    prime, number = rng.choice(naive.PRIMES), rng.choice((0, 1, -3, 10 ** 30, -10 ** 30))
    chain, other = naive_chains.drawn_chain(rng, plan, 5), naive_chains.drawn_chain(rng, plan, 5)
    walk, point = naive.drawn_walk(rng, plan, 6), rng.randrange(plan[0])
    yield from [(f, (plan,)) for f in (
        hulltables.hull_table, hulltables.hull_order, waypolynomials.way_polynomial, threads.sides,
        threads.threads_of_something, threads.threads_of_nothing, threads.rounds_of_nothing, threads.holes,
        threads.hole_pairs, threads.genus, threads.hole_polynomial, duals.exchanged, duals.signed_ways)]
    yield from [(hulltables.hull_power, (plan, number)), (duals.nought_ways, (plan, point, 0)),
                (hulltables.led_sizes, (plan, tuple(range(plan[0])), number)),
                (waypolynomials.pair_polynomial, (((2, 1), (0, 3)),)), (chains.degrees, (chain,)),
                (chains.chains_of, (plan, rng.randint(0, 4), rng.randint(0, 6))),
                (coverchains.cover_chain, (plan, walk)), (coverchains.cut_chain, (plan, walk, rng.randint(1, 4)))]
    yield from [(f, (plan, chain)) for f in (
        chains.check_chain, chains.chain_points, chains.chain_sizes, chains.chain_turned, chains.chain_of,
        remains.remains_of, remains.remains_units, coverchains.walk_of_chain)]
    yield from [(chainnumbers.chain_number, (plan, prime, chain, other, rng.randint(-2, 2))),
                (chainnumbers.chain_form, (plan, chain, other))]


def text_calls(rng, plan):
    """Calls of the functions of glued plans, sizes, lists of rooms, texts, claims and sheets with drawn arguments."""
    prime, size = rng.choice(naive.PRIMES), plan[0]
    room, walk, sheet = naive_rooms.drawn_room(rng, plan, prime, 2), naive.drawn_walk(rng, plan, 6), rng.randrange(2)
    kept = tuple(sorted(rng.sample(range(size), rng.randint(1, size))))
    crossing = tuple(a for a in range(len(plan[1])) if rng.random() < 0.5)
    units = tuple(rng.randint(0, 1 if size > 4 else 2) for _ in range(size))
    if size > 1:
        yield from [(f, (plan, 0, rng.randrange(1, size))) for f in (glue.glued, glue.joined_at)]
    yield from [(glue.corner_ways, (plan, kept)), (glue.corner, (plan, kept)),
                (glue.corner_room, (plan, prime, room, kept)), (glue.doubled, (plan, crossing)),
                (glue.lifted, (plan, crossing, walk, sheet)),
                (glue.laid_down, (plan, glue.lifted(plan, crossing, walk, sheet)))]
    if size <= 6:
        over = rooms.empty_room(glue.doubled(plan, crossing))
        yield (glue.laid_room, (plan, crossing, prime, over))
    yield from [(f, (plan, units)) for f in (sizes.strings_of, sizes.bands_of, sizeforms.own_form)]
    yield from [(f, (plan, prime, units)) for f in (sizes.room_number, roomlists.room_list, roomlists.room_total)]
    yield from [(roomlists.changes, (prime, units)), (roomlists.own_changes, (plan, prime, (((walk, 2),), ()))),
                (sizeforms.form_table, (plan,)), (sizeforms.size_form, (plan, units, room[0]))]
    told = (test_claims.drawn_claim(rng, plan), ("not", test_claims.drawn_claim(rng, plan)))
    yield from [(f, (plan, value)) for value in (walk, told[0], told[1], ("not",)) for f in (claims.check_claim,)]
    yield from [(f, (plan, claim)) for claim in told for f in (claims.holds, claims.claim_text)]
    yield from [(f, (plan, told)) for f in (sheets.sheet_text, sheets.answers, sheets.amended)]
    text = rng.choice(("", " ", "\n0", " 0"))
    yield from [(texts.plan_text, (plan,)), (texts.walk_text, (plan, walk)), (roomtexts.room_text, (plan, room)),
                (texts.read_plan, (texts.plan_text(plan) + text,)), (claims.opposite, (told[0],)),
                (texts.read_walk, (plan, texts.walk_text(plan, walk) + text)),
                (roomtexts.read_room, (plan, prime, roomtexts.room_text(plan, room) + text)),
                (claims.read_claim, (plan, claims.claim_text(plan, told[1]) + text)),
                (sheets.read_sheet, (sheets.sheet_text(plan, told) + text,))]


def every_call(rng, plan):
    return [*calls(rng, plan), *room_calls(rng, plan), *bend_calls(rng, plan), *lot_calls(rng, plan),
            *chain_calls(rng, plan), *text_calls(rng, plan)]


class Throughout(unittest.TestCase):
    def test_calls(self):
        rng = random.Random(80)
        called = set()
        for plan in naive.plans_for(80, 40, 5):
            for function, told in every_call(rng, plan):
                called.add(function)
                before = copy.deepcopy(told)
                results = [naive.raised(function, *told) for _ in range(2)]
                results.append(naive.raised(function, **dict(zip(inspect.signature(function).parameters, told))))
                self.assertEqual(told, before, function)
                self.assertTrue(results[0] == results[1] == results[2], function)
                self.assertTrue(is_plain(results[0]), (function, results[0]))
        known = {getattr(importlib.import_module("stringrooms." + file), entry.split("(")[0])
                 for file, told in test_interface.TOLD.items() for entry in told.split()}
        self.assertEqual(sorted(f.__module__ + "." + f.__name__ for f in known - called), [])


if __name__ == "__main__":
    unittest.main()
