"""Points 3 and 6: texts that are no schemas, and the limits of a schema."""

import functools
import itertools
import unittest

from levelcolumns.errors import InvalidText
from levelcolumns.schemas import Schema, kinds, way_of
from tests.samples import DEEP, EXAMPLE, TWELVE, random_trees, text_of

def names_of(most):
    """The words of a's, b's and v's with up to so many letters."""
    return ["".join(word) for many in range(1, most + 1) for word in itertools.product("abv", repeat=many)]


@functools.lru_cache(None)
def wholes(most):
    """The schemas with at most so many signs, over few names."""
    found = {"v"} if most >= 1 else set()
    if most >= 2:
        found |= {"?" + below for below in wholes(most - 1)}
        found |= {"[" + below + "]" for below in wholes(most - 2)}
        found |= {"{" + fields for fields in whole_fields(most - 1, ())}
    return found


@functools.lru_cache(None)
def whole_fields(most, taken):
    """The rest of a record behind its brace or a blank."""
    found = set()
    for name in names_of(most - 3):
        if name not in taken:
            for below in wholes(most - len(name) - 2):
                begin = f"{name}:{below}"
                found.add(begin + "}")
                found |= {f"{begin} {rest}" for rest in whole_fields(most - len(begin) - 1, taken + (name,))}
    return found


@functools.lru_cache(None)
def starts(most):
    """The beginnings, with at most so many signs, of schemas of any length."""
    found = {""} | wholes(most)
    if most >= 1:
        found |= {sign + below for sign in "?[" for below in starts(most - 1)}
        found |= {"{" + fields for fields in starts_of_fields(most - 1, ())}
    return found


@functools.lru_cache(None)
def starts_of_fields(most, taken):
    found = {""} | set(names_of(most))
    for name in names_of(most - 1):
        if name not in taken:
            found |= {f"{name}:{below}" for below in starts(most - len(name) - 1)}
            for below in wholes(most - len(name) - 2):
                begin = f"{name}:{below}"
                found.add(begin + "}")
                found |= {f"{begin} {rest}" for rest in starts_of_fields(most - len(begin) - 1, taken + (name,))}
    return found


def wide_text(many):
    """A text of so many signs (157 to 430) with 12 leaves and 40 nodes, but for that a schema."""
    letters = many - 118
    lengths = [min(8, max(1, letters - 38 - 7 * at)) for at in range(39)]
    names = ["abcdefghijkl"[at // 3 if at < 36 else 0] + "z" * (length - 1) for at, length in enumerate(lengths)]
    fields = [names[at:at + 3] + names[36 + at // 3:37 + at // 3] for at in range(0, 36, 3)]
    return "{" + " ".join(":{".join(parts) + ":v" + "}" * (len(parts) - 1) for parts in fields) + "}"


class WrongTexts(unittest.TestCase):

    def assert_place(self, text, place):
        with self.assertRaises(InvalidText, msg=text) as caught:
            Schema(text)
        self.assertEqual(caught.exception.place, place, text)

    def test_wrong_signs(self):
        for text, place in [
                ("", 0), ("x", 0), (" v", 0), ("V", 0), ("]", 0), ("}", 0), (":", 0), ("a:v", 0), ("\n", 0), ("0", 0),
                ("?x", 1), ("? v", 1), ("?]", 1), ("?}", 1), ("[x]", 1), ("[]", 1), ("[ v]", 1), ("[v v]", 2),
                ("[v}", 2), ("[v,", 2), ("{x}", 2), ("{}", 1), ("{ a:v}", 1), ("{A:v}", 1), ("{1:v}", 1),
                ("{:v}", 1), ("{a v}", 2), ("{a1:v}", 2), ("{aB:v}", 2), ("{a:}", 3), ("{a: v}", 3), ("{a::v}", 3),
                ("{a:a}", 3), ("{a:v]", 4), ("{a:v,b:v}", 4), ("{a:v\nb:v}", 4), ("{a:v ?:v}", 5), ("{`:v}", 1),
                ("{{:v}", 1), ("{a`:v}", 2), ("{a{:v}", 2), ("[{a:v]}", 5), ("{a:[v}]", 5)]:
            self.assert_place(text, place)

    def test_doubled_blanks(self):
        self.assert_place("{a:v  b:v}", 5)
        self.assert_place("{a:v }", 5)
        self.assert_place("{a:[v]  b:v}", 7)
        self.assert_place("{a:{b:v  c:v}}", 8)

    def test_a_name_twice(self):
        self.assert_place("{a:v a:v}", 6)
        self.assert_place("{a:v b:v a:v}", 10)
        self.assert_place("{ab:v abc:v ab:v}", 14)
        self.assert_place("{abcdefgh:v abcdefgh:v}", 20)
        self.assert_place("{a:{a:v b:v} a:v}", 14)
        self.assert_place("{a:{b:v b:v}}", 9)

    def test_a_name_twice_that_is_not_told_at_a_colon(self):
        self.assert_place("{a:v a}", 6)
        self.assert_place("{a:v a v}", 6)
        self.assert_place("{a:v a", 6)
        self.assert_place("{abcdefgh:v abcdefgh", 20)
        self.assert_place("{abcdefgh:v abcdefghi:v}", 20)

    def test_the_same_name_elsewhere(self):
        for text in ["{a:v ab:v}", "{ab:v a:v}", "{a:{a:{a:v}}}", "{a:{b:v} b:{b:v a:v}}", "{v:v}"]:
            self.assertEqual(Schema(text).text, text)

    def test_text_behind_a_schema(self):
        for text in ["v", "?v", "[v]", "{a:v}", EXAMPLE, DEEP]:
            for behind in ["v", " ", "]", "}", "?", "[v]", "{a:v}", "\n", ":", " v"]:
                self.assert_place(text + behind, len(text))

    def test_texts_cut_short(self):
        for text in ["v", "???v", "[[v]]", "{ab:v cd:v}", EXAMPLE, DEEP, TWELVE]:
            for end in range(len(text)):
                self.assert_place(text[:end], end)

    def test_one_sign_replaced(self):
        for tree in random_trees(20, seed=4, most_leaves=5):
            text = text_of(tree)
            for place, sign in enumerate(text):
                for wrong in "A0!,\n":
                    self.assert_place(text[:place] + wrong + text[place + 1:], place)

    def test_all_short_texts(self):
        whole, begun = wholes(7), starts(7)
        for text in begun:
            if text in whole:
                self.assertEqual(Schema(text).text, text)
            else:
                self.assert_place(text, len(text))
            if len(text) < 7:
                for sign in "?[]{}: abvx":
                    if text + sign not in begun and not (sign == "x" and text + "a" in begun):
                        self.assert_place(text + sign, len(text))
                        self.assert_place(text + sign + "v", len(text))

    def test_place_by_name_of_the_argument(self):
        with self.assertRaises(InvalidText) as caught:
            Schema(text="{a:v b}")
        self.assertEqual(caught.exception.place, 6)


class Limits(unittest.TestCase):

    assert_place = WrongTexts.assert_place

    def test_twelve_leaves(self):
        self.assertEqual(len(Schema(TWELVE)), 12)
        self.assert_place(TWELVE[:-1] + " m:v}", TWELVE.index("}") + 3)
        self.assert_place(TWELVE[:-1] + " m:v", TWELVE.index("}") + 3)
        self.assert_place(TWELVE[:-1] + " m:?[{a:v", TWELVE.index("}") + 8)

    def test_what_comes_before_the_thirteenth_leaf_can_stand(self):
        for behind in [" ", " m", " m:", " m:?", " m:[{a:"]:
            self.assert_place(TWELVE[:-1] + behind, len(TWELVE) - 1 + len(behind))
        self.assert_place(TWELVE[:-1] + " m:}", len(TWELVE) + 2)

    def test_forty_nodes_and_twelve_leaves(self):
        schema = Schema(wide_text(200))
        self.assertEqual((len(kinds(schema)), len(schema)), (40, 12))

    def test_the_forty_first_node_of_each_kind(self):
        begin = "{" + " ".join(f"{name}:?[?v]" for name in "abcdefghi") + " j:"
        self.assertEqual(len(kinds(Schema(begin + "?[v]}"))), 40)
        for sign in "v?[{":
            self.assert_place(begin + "?[?" + sign, len(begin) + 3)
            self.assert_place(begin + "?{a:v b:" + sign, len(begin) + 8)
        self.assert_place(begin + "?[?v]}", len(begin) + 3)
        self.assert_place(begin + "?[?", len(begin) + 3)

    def test_four_hundred_signs(self):
        text = wide_text(400)
        self.assertEqual((len(text), Schema(text).text, len(kinds(Schema(text)))), (400, text, 40))
        self.assert_place(text + "v", 400)
        self.assert_place(text + " " * 3600, 400)
        for many in [401, 402, 410, 430]:
            self.assertEqual(len(wide_text(many)), many)
            self.assert_place(wide_text(many), 400)

    def test_a_text_that_cannot_end_within_four_hundred_signs(self):
        text = wide_text(430)
        for end in [398, 399, 400]:
            self.assert_place(text[:end], end)
        self.assert_place(text[:401], 400)
        self.assert_place(text[:399] + "!", 399)
        self.assert_place(text[:200] + "!" + text[201:], 200)

    def test_twenty_nodes_above_a_leaf(self):
        text = "{a:" * 20 + "v" + "}" * 20
        self.assertEqual(kinds(Schema(text)), ["record"] * 20 + ["value"])
        for sign in "?[{x":
            self.assert_place("{a:" * 20 + sign, 60)
        self.assert_place("{a:" * 21 + "v" + "}" * 21, 60)
        self.assert_place("{a:" * 20, 60)
        mixed = "{a:" * 12 + "?[" * 4 + "v" + "]" * 4 + "}" * 12
        self.assertEqual(len(kinds(Schema(mixed))), 21)
        self.assert_place("{a:" * 13 + "?[" * 3 + "?{a:v}", 46)

    def test_nodes_above_are_counted_for_each_leaf(self):
        deep = "{a:" * 19
        self.assertEqual(len(Schema(deep + "[v]" + "}" * 18 + " b:{a:v}}")), 2)
        self.assertEqual(len(Schema(deep + "v b:?v" + "}" * 18 + " b:?{a:[v]}}")), 3)
        self.assert_place(deep + "v b:??v", 57 + 5)
        self.assert_place("{a:v b:" + "{a:" * 19 + "?v", 7 + 57)

    def test_eight_open_nodes_above_a_leaf(self):
        self.assertEqual(way_of(Schema("?" * 8 + "v"), 8), "m" * 8)
        self.assertEqual(way_of(Schema("[" * 8 + "v" + "]" * 8), 8), "l" * 8)
        for sign in "?[x":
            self.assert_place("?" * 8 + sign + "v", 8)
            self.assert_place("[" * 8 + sign + "v", 8)
            self.assert_place("?[" * 4 + "{a:" + sign, 11)
        self.assertEqual(len(Schema("?[" * 4 + "{a:v b:{c:v}}" + "]" * 4)), 2)

    def test_open_nodes_are_counted_for_each_leaf(self):
        text = "{a:" + "?" * 8 + "v b:" + "?" * 7 + "{a:[v] b:?v} c:" + "[" * 8 + "v" + "]" * 8 + "}"
        self.assertEqual(len(Schema(text)), 4)
        self.assert_place("{a:" + "?" * 8 + "v b:" + "?" * 7 + "{a:[v] b:??v}}", 32)

    def test_names_of_eight_letters(self):
        self.assertEqual(Schema("{abcdefgh:v z:v}").text, "{abcdefgh:v z:v}")
        self.assertEqual(Schema("{zzzzzzzz:v}").text, "{zzzzzzzz:v}")
        self.assert_place("{abcdefghi:v}", 9)
        self.assert_place("{abcdefgh!:v}", 9)
        self.assert_place("{abcdefgh}", 9)
        self.assert_place("{a:v abcdefghi", 13)


if __name__ == "__main__":
    unittest.main()
