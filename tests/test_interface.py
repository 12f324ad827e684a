"""The interface: each function in its file, with its parameters, called by position or by name."""

import importlib
import inspect
import os
import re
import unittest

from stringrooms import book, errors

TOLD = {
    "plans": "check_plan(value) is_plan(value) ends_of(plan,letter) next_of(plan,arrow) nil_of(plan,arrow)"
             " ahead_of(plan,arrow) nil_ahead_of(plan,arrow) mate_of(plan,letter) may_follow(plan,letter,other)"
             " followers(plan,letter) from_point(plan,point) turned_plan(plan) renamed(plan,points,arrows)",
    "forms": "row_from(plan,arrow) numbered(plan,arrow) parts_of(plan) sub_plan(plan,points) without_arrow(plan,arrow)"
             " beside(plan,other) form_of(plan) renaming(plan,other) symmetry_number(plan) small_plans(size)",
    "ways": "longest_from(plan,arrow) ways_from(plan,point) ways_into(plan,point) ways_between(plan,point,other)"
            " way_number(plan) is_way(plan,walk) way_behind(plan,walk,other) nil_row(plan,arrow) nought_rounds(plan)",
    "walks": "check_walk(plan,value) points_of(plan,walk) end_of(plan,walk) turned(plan,walk) string_of(plan,walk)"
             " sizes_of(plan,walk) goings(plan,walk) joined(plan,walk,other) strings(plan,length)"
             " strings_upto(plan,length) in_renamed_plan(plan,walk,points,arrows) in_turned_plan(plan,walk)",
    "rounds": "check_round(plan,value) turned_round(letters) begun_at(letters,place) band_place(plan,letters)"
              " band_of(plan,letters) has_bands(plan) bands(plan,length) a_band(plan) band_list(plan) longest(plan)"
              " all_strings(plan)",
    "counting": "walk_number(plan,length) string_number(plan,length) string_total(plan,length)"
                " between(plan,letter,other,length) band_number(plan,length) growth(plan)",
    "fields": "check_prime(value) check_poly(prime,value) undone_number(prime,number) poly_times(prime,poly,other)"
              " poly_power(prime,poly,steps) is_irreducible(prime,poly) factors(prime,poly) power_of(prime,poly)"
              " undone(prime,poly) irreducible_number(prime,steps) irreducibles(prime,steps) reduced(rows,prime)"
              " rank(rows,prime) kernel(rows,prime)",
    "tables": "flipped(rows,width) times(rows,others,prime,width) one(size) solved(rows,prime,goal) undo(rows,prime)"
              " determinant(rows,prime) power(rows,prime,steps) own_poly(rows,prime) poly_table(prime,poly)"
              " poly_at(rows,prime,poly) divisors(rows,prime) least_poly(rows,prime) span(rows,others,prime)"
              " meet(rows,others,prime) free_places(rows,prime,width) rest_row(row,base,prime)",
    "rooms": "check_room(plan,prime,value) empty_room(plan) place_units(plan,walk) string_room(plan,walk)"
             " band_room(plan,prime,letters,poly) part_room(plan,prime,part) sum_room(plan,several)"
             " parts_room(plan,prime,several) way_table(plan,prime,room,point,arrows) changed(plan,prime,room,told)"
             " dual_room(plan,prime,room) led(plan,prime,room,told) is_closed(plan,prime,room,told)"
             " sub_room(plan,prime,room,told) left_room(plan,prime,room,told) common(plan,prime,room)"
             " reached(plan,prime,room)",
    "apart": "pairs_along(plan,prime,room,walk) number_along(plan,prime,room,walk) strings_in(plan,prime,room)"
             " rounds_in(plan,prime,room) parts_of_room(plan,prime,room) round_divisors(plan,prime,room,letters)"
             " alike(plan,prime,room,other)",
    "homs": "map_basis(plan,prime,room,other) map_size(plan,prime,room,other) is_map(plan,prime,room,other,told)"
            " map_kernel(plan,prime,room,other,told) map_image(plan,prime,room,other,told)"
            " after(plan,prime,room,other,third,told,next_told) is_alike_map(plan,prime,room,other,told)"
            " alike_map(plan,prime,room,other) split(plan,prime,room,part) apart_map(plan,prime,room)",
    "pieces": "piece_of(plan,walk,first,last) let_go(plan,walk) taken_in(plan,walk) map_pairs(plan,walk,other)"
              " map_number(plan,walk,other) round_let_go(plan,letters,most) round_taken_in(plan,letters,most)"
              " pairs_to_round(plan,walk,letters) pairs_from_round(plan,letters,walk)"
              " pairs_of_rounds(plan,letters,others) part_number(plan,prime,one,other)",
    "maps": "pair_map(plan,walk,other,pair) told_by(plan,prime,walk,other,rows)"
            " behind(plan,walk,other,third,pair,next_pair) through(plan,walk,third,other) own_pairs(plan,walk)"
            " is_brick(plan,walk) vanishing(plan,walk) parts_of(plan,walk,other,pair) is_onto(plan,walk,other,pair)"
            " is_one_to_one(plan,walk,other,pair)",
    "layers": "tops(plan,walk) low_places(plan,walk) round_tops(plan,letters) round_low_places(plan,letters)"
              " hull_of(plan,point) cover_points(plan,walk) hull_points(plan,walk) sub_strings(plan,walk)"
              " let_go_strings(plan,walk) closed_number(plan,walk) closed_sets(plan,walk)"
              " set_strings(plan,walk,places) depths(plan,walk) heights(plan,walk) layers(plan,walk) feet(plan,walk)"
              " layer_number(plan,walk) way_rank(plan,walk,point,arrows)",
    "translating": "hooks(plan,string) pulled(plan,string) forth(plan,string) back(plan,string) middle(plan,string)"
                   " back_middle(plan,string) almost_split(plan,string) forth_times(plan,string,number)",
    "rests": "cover_of(plan,point) tail_of(plan,arrow) rest_parts(plan,walk) rest_of(plan,walk)"
             " round_rest(plan,letters)",
    "bending": "bends(plan,upper,lower) arrow_sums(plan,upper,lower) crossing_sums(plan,upper,lower)"
               " middle_rooms(plan,upper,lower) has_bent(plan,upper,lower)",
    "bentrooms": "bent_number(plan,prime,room,other) bent_basis(plan,prime,room,other)"
                 " bent_room(plan,prime,room,other,bend) band_bends(plan,prime,part,other)",
    "nets": "net(plan) net_steps(plan) meshes(plan) covers_in(plan) hulls_in(plan) distance(plan,one,other)"
            " net_parts(plan) map_table(plan) knits(plan,rows)",
    "tubes": "tube(prime,poly,most) band_middle(prime,band,poly)",
    "peace": "sign_of(plan,walk) stops(plan,other,walk) part_stops(plan,prime,part,walk) is_peaceful(plan,walk)"
             " are_peaceful(plan,walk,other) peaceful(plan,length) signed(plan,signs,length)",
    "blossoms": "blossomed(plan) check_long(plan,value) long_walk(plan,walk) long_mark(plan,point) long_ways(plan)"
                " short_of(plan,value) long_sign(plan,value)",
    "kisses": "kissing(plan,value,other) kisses(plan,value,other)",
    "lots": "check_lot(plan,value) is_full(plan,lot) most_lot(plan) least_lot(plan) sign_rows(plan,lot)"
            " written(plan,lot,numbers) completed(plan,lot) completed_least(plan,lot)",
    "exchanges": "greatest(plan,lot) exchange_step(plan,lot,number) exchange(plan,lot,number)"
                 " exchanges(plan,lot,numbers)",
    "lotlists": "all_lots(plan) lots_with(plan,lot) lot_at(plan,numbers)",
    "making": "makes(plan,lot,walk) part_made(plan,prime,lot,part) reach(plan,strings,walk) first_part(plan,lot,walk)"
              " over(plan,lot,other) made(plan,lot)",
    "closed": "free_of(plan,strings) before(plan,strings) closed_by(plan,strings) is_closed(plan,strings)"
              " lot_made(plan,strings) meet(plan,lot,other) join(plan,lot,other)",
    "bricks": "bricks(plan) bricks_upto(plan,length) steps_down(plan,lot) steps_up(plan,lot) are_apart(plan,strings)"
              " lot_of_bricks(plan,strings) brick_sets(plan)",
    "farrests": "far_rest(plan,walk,steps) far_tails(plan,walk,steps) rest_length(plan,walk) rest_ring(plan,walk)"
                " lasting(plan) plan_depth(plan)",
    "farbends": "far_bends(plan,walk,other,steps) bends_row(plan,walk,other) bends_form(plan,walk,other)",
    "waytables": "way_table(plan) ways_of_length(plan,steps) nothings_of_length(plan,steps) way_determinant(plan)"
                 " undone_ways(plan)",
    "hulltables": "hull_table(plan) hull_power(plan,number) hull_order(plan) led_sizes(plan,sizes,number)",
    "waypolynomials": "way_polynomial(plan) pair_polynomial(pairs)",
    "threads": "sides(plan) threads_of_something(plan) threads_of_nothing(plan) rounds_of_nothing(plan) holes(plan)"
               " hole_pairs(plan) genus(plan) hole_polynomial(plan)",
    "chains": "check_chain(plan,value) chain_points(plan,chain) degrees(chain) chain_sizes(plan,chain)"
              " chain_turned(plan,chain) chain_of(plan,chain) chains_of(plan,steps,arrows)",
    "remains": "remains_of(plan,chain) remains_units(plan,chain)",
    "coverchains": "cover_chain(plan,walk) cut_chain(plan,walk,steps) walk_of_chain(plan,chain)",
    "chainnumbers": "chain_number(plan,prime,chain,other,shift) chain_form(plan,chain,other)",
    "duals": "exchanged(plan) nought_ways(plan,point,other) signed_ways(plan)",
    "glue": "glued(plan,point,other) joined_at(plan,point,other) corner_ways(plan,kept) corner(plan,kept)"
            " corner_room(plan,prime,room,kept) doubled(plan,crossing) laid_down(plan,walk)"
            " lifted(plan,crossing,walk,sheet) laid_room(plan,crossing,prime,room)",
    "sizes": "strings_of(plan,units) bands_of(plan,units) room_number(plan,prime,units)",
    "roomlists": "room_list(plan,prime,units) changes(prime,units) own_changes(plan,prime,parts)"
                 " room_total(plan,prime,units)",
    "sizeforms": "form_table(plan) size_form(plan,units,others) own_form(plan,units)",
    "texts": "plan_text(plan) read_plan(text) walk_text(plan,walk) read_walk(plan,text)",
    "roomtexts": "room_text(plan,room) read_room(plan,prime,text)",
    "claims": "check_claim(plan,value) holds(plan,claim) opposite(claim) claim_text(plan,claim) read_claim(plan,text)",
    "sheets": "sheet_text(plan,claims) read_sheet(text) answers(plan,claims) amended(plan,claims)",
    "roads": "road(plan,string,most) road_back(plan,string,most) rows_of(plan,string,most) grows(plan,string)",
}

BOOK = ("exchange(self,number) undo(self) redo(self) numbers(self) lots(self) pieces(self) mark(self,name) go(self,name)"
        " names(self) tried(self,numbers) copy(self) __init__(self,plan,lot)")


class Interface(unittest.TestCase):
    def test_document(self):
        """Each name that the document lists under a file is listed here for it."""
        document = os.path.join(os.path.dirname(os.path.dirname(os.path.dirname(os.path.abspath(__file__)))),
                                "shared", "DOC.md")
        if not os.path.exists(document):
            self.skipTest("no document beside this checkout")
        with open(document, encoding="utf-8") as file:
            sections = file.read().split("# The interface\n")[1].split("\n## stringrooms/")[1:]
        for section in sections:
            head, text = section.split("\n", 1)
            file = head[:-3]
            listed = re.findall(r"`([A-Za-z_]+)(?:\([^`]*\))?`", text)
            self.assertTrue(listed, file)
            if file == "errors":
                known = [name for name in dir(errors) if not name.startswith("_")]
            elif file == "book":
                known = ["Book"] + re.findall(r"(\w+)\(", BOOK)
            else:
                known = re.findall(r"(\w+)\(", TOLD[file])
                self.assertEqual(listed, [name for name in listed if name in known], file)
                self.assertEqual(sorted(listed), sorted(known), file)
            self.assertTrue(set(listed) <= set(known), (file, set(listed) - set(known)))

    def test_book(self):
        for entry in BOOK.split():
            name, parameters = entry[:-1].split("(")
            method = vars(book.Book)[name]
            self.assertEqual(list(inspect.signature(method).parameters), parameters.split(","), entry)
        self.assertIsInstance(vars(book.Book)["lot"], property)
        self.assertEqual(book.Book.__module__, "stringrooms.book")
        self.assertIsNone(inspect.signature(book.Book).parameters["lot"].default)

    def test_names_and_parameters(self):
        for file, told in TOLD.items():
            module = importlib.import_module("stringrooms." + file)
            for entry in told.split():
                name, parameters = entry[:-1].split("(")
                function = getattr(module, name)
                self.assertTrue(inspect.isfunction(function), entry)
                self.assertEqual(function.__module__, module.__name__, entry)
                self.assertEqual(list(inspect.signature(function).parameters), parameters.split(","), entry)
                kinds = {p.kind for p in inspect.signature(function).parameters.values()}
                self.assertEqual(kinds, {inspect.Parameter.POSITIONAL_OR_KEYWORD}, entry)


if __name__ == "__main__":
    unittest.main()
