import importlib
import inspect
import unittest

INTERFACE = {
    "wholes": ["is_whole(thing)", "divisor(one, other)"],
    "ratios": ["fraction(top, bottom)", "plus(one, other)", "minus(one, other)", "times(one, other)", "half(one)",
               "under(one, other)"],
    "points": ["point(x, y, w)", "across(P)", "up(P)", "before(P, Q)", "turn(P, Q, R)", "line_of(P, Q)",
               "side_of(line, P)", "met(one, other)", "amid(P, Q)"],
    "stretches": ["stretch(P, Q)", "lies_on(P, S)", "meet(one, other)"],
    "sweep": ["stops(stretches)", "pieces(stretches)"],
    "counts": ["is_upright(S)", "above(stretches, P)", "hands(S, stretches)"],
    "lands": ["sides_of(rings)", "fences_of(rows)", "land_of(rings)", "where(land, P)", "area(land)", "is_land(fences)"],
    "joins": ["marks(one, other)", "join(one, other)", "common(one, other)", "less(one, other)", "either(one, other)"],
    "rings": ["rings_of(land)"],
    "nests": ["lies_in(ring, other)", "nest(some)"],
    "triangles": ["corners_of(land)", "diagonals(land)", "triangles(land)"],
    "hulls": ["hull(points)"],
    "slabs": ["slabs(pairs)"],
    "maps": ["Map(pairs)", "Map.found(self, P)"],
    "texts": ["read(text)", "shown(land)", "read_point(text)", "show_fraction(one)"],
    "desk": ["Desk()", "Desk.say(self, row)"],
    "sights": ["sight(land, P)", "seen_from(land, P)", "lit(land, points)"],
}


class Interface(unittest.TestCase):
    def test_names_and_arguments(self):
        for module, rows in INTERFACE.items():
            for row in rows:
                with self.subTest(module=module, row=row):
                    thing = importlib.import_module(f"acre.{module}")
                    for name in row.partition("(")[0].split("."):
                        thing = getattr(thing, name)
                    self.assertEqual(row.partition("(")[0] + str(inspect.signature(thing)), row)


if __name__ == "__main__":
    unittest.main()
