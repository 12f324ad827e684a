"""The interface: each function in its file, with its parameters, called by position or by name."""

import importlib
import inspect
import unittest

TOLD = {
    "plans": "check_plan(value) is_plan(value) ends_of(plan,letter) next_of(plan,arrow) nil_of(plan,arrow)"
             " ahead_of(plan,arrow) nil_ahead_of(plan,arrow) mate_of(plan,letter) may_follow(plan,letter,other)"
             " followers(plan,letter) from_point(plan,point) turned_plan(plan) renamed(plan,points,arrows)",
    "forms": "row_from(plan,arrow) numbered(plan,arrow) parts_of(plan) sub_plan(plan,points) without_arrow(plan,arrow)"
             " beside(plan,other) form_of(plan) renaming(plan,other) symmetry_number(plan) small_plans(size)",
    "ways": "longest_from(plan,arrow) ways_from(plan,point) ways_into(plan,point) ways_between(plan,point,other)"
            " way_number(plan) is_way(plan,walk) way_behind(plan,walk,other) nil_row(plan,arrow) nought_rounds(plan)",
    "walks": "check_walk(plan,value) points_of(plan,walk) end_of(plan,walk) turned(plan,walk) string_of(plan,walk)"
             " sizes_of(plan,walk) goings(plan,walk) joined(plan,walk,other) strings(plan,length)"
             " strings_upto(plan,length) in_renamed_plan(plan,walk,points,arrows) in_turned_plan(plan,walk)",
    "rounds": "check_round(plan,value) turned_round(letters) begun_at(letters,place) band_place(plan,letters)"
              " band_of(plan,letters) has_bands(plan) bands(plan,length) a_band(plan) band_list(plan) longest(plan)"
              " all_strings(plan)",
    "counting": "walk_number(plan,length) string_number(plan,length) string_total(plan,length)"
                " between(plan,letter,other,length) band_number(plan,length) growth(plan)",
    "fields": "check_prime(value) check_poly(prime,value) undone_number(prime,number) poly_times(prime,poly,other)"
              " poly_power(prime,poly,steps) is_irreducible(prime,poly) factors(prime,poly) power_of(prime,poly)"
              " undone(prime,poly) irreducible_number(prime,steps) irreducibles(prime,steps) reduced(rows,prime)"
              " rank(rows,prime) kernel(rows,prime)",
}


class Interface(unittest.TestCase):
    def test_names_and_parameters(self):
        for file, told in TOLD.items():
            module = importlib.import_module("stringrooms." + file)
            for entry in told.split():
                name, parameters = entry[:-1].split("(")
                function = getattr(module, name)
                self.assertTrue(inspect.isfunction(function), entry)
                self.assertEqual(function.__module__, module.__name__, entry)
                self.assertEqual(list(inspect.signature(function).parameters), parameters.split(","), entry)
                kinds = {p.kind for p in inspect.signature(function).parameters.values()}
                self.assertEqual(kinds, {inspect.Parameter.POSITIONAL_OR_KEYWORD}, entry)


if __name__ == "__main__":
    unittest.main()
