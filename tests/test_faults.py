import unittest

from tests.helper import as_bytes, last, list_text, load

TWO = "measures m up, n down ;"


def fault(text):
    told = last(load(text))
    if told[0] != 0 or len(told) != 3:
        raise AssertionError(f"no fault: {told}")
    return told[1:]


def marked(text):
    """A text without its mark, and the mark's place: the byte ^ stands right before the fault."""
    place = text.index("^")
    return text.replace("^", "", 1), place


class EachFault(unittest.TestCase):
    def told_at_mark(self, code, text):
        bare, place = marked(text)
        self.assertEqual(fault(bare), [code, place], text)

    def test_2_where_no_token_begins(self):
        for text in (
            "^!", "measures ^. m up ;", "measures m^_n up ;", "measures m up ; ^\"item", "measures m up ;^\r\n",
            TWO + "item a : ^+1, 2 ;", TWO + "item a ^= 1, 2 ;", TWO + "item a : 1, 2 ; ^~",
        ):
            self.told_at_mark(2, text)

    def test_2_at_every_byte_that_begins_no_token(self):
        fine = as_bytes(" \t\n#,:;-") + list(range(48, 58)) + list(range(65, 91)) + list(range(97, 123))
        for byte in range(256):
            code = fault([byte] + as_bytes("\n!"))[0]
            place = fault([byte] + as_bytes("\n!"))[1]
            self.assertEqual([code, place], [2, 2 if byte in fine else 0], byte)

    def test_3_in_the_measures(self):
        for text in (
            "^item a : 1 ;", "^m up ;", "^; measures m up ;", "measures ^up ;", "measures ^, m up ;", "measures ^3 up ;",
            "measures m ^;", "measures m ^, n up ;", "measures m ^n up ;", "measures m ^item ;", "measures m up ^n up ;",
            "measures m up ^down ;", "measures m up, ^;", "measures m up,^, n up ;", "measures m up ^: n up ;",
            "measures m up ^item a : 1 ;", "measures m ^- up ;", "measures ^measures m up ;",
        ):
            self.told_at_mark(3, text)

    def test_3_in_the_items(self):
        for text in (
            TWO + "^;", TWO + "^a : 1, 2 ;", TWO + "^measures m up ;", TWO + "^3", TWO + "item ^: 1, 2 ;",
            TWO + "item ^5 : 1, 2 ;", TWO + "item a ^1, 2 ;", TWO + "item a ^; 1, 2 ;", TWO + "item a : ^;",
            TWO + "item a : ^, 2 ;", TWO + "item a : ^b, 2 ;", TWO + "item a : ^up, 2 ;", TWO + "item a : 1 ^2 ;",
            TWO + "item a : 1, ^;", TWO + "item a : 1,^, 2 ;", TWO + "item a : 1 ^- 2 ;", TWO + "item a : 1, 2 ^item",
            TWO + "item a : 1, 2 ;^;", TWO + "item a : 1, 2 ; ^b : 1, 2 ;", TWO + "item a ^- : 1, 2 ;",
        ):
            self.told_at_mark(3, text)

    def test_3_at_too_few_and_too_many_values(self):
        self.told_at_mark(3, TWO + "item a : 1 ^;")
        self.told_at_mark(3, TWO + "item a : 1, 2 ^, 3 ;")
        self.told_at_mark(3, "measures m up ; item a : 1 ^, 2 ;")

    def test_5_at_a_name_that_is_there(self):
        self.told_at_mark(5, "measures m up, ^m down ;")
        self.told_at_mark(5, "measures m up, n up, o up, ^n down ;")
        self.told_at_mark(5, TWO + "item a : 1, 2 ; item b : 1, 2 ; item ^a : 3, 4 ;")
        self.told_at_mark(5, TWO + "item a : 1, 2 ; item ^a")

    def test_7_at_a_number_above_1000(self):
        self.told_at_mark(7, TWO + "item a : ^1001, 2 ;")
        self.told_at_mark(7, TWO + "item a : 1, -^1001 ;")
        self.told_at_mark(7, TWO + "item a : 1, 2 ; item b : 3, ^2000 ;")


class WhichFault(unittest.TestCase):
    def told_at_mark(self, code, text):
        bare, place = marked(text)
        self.assertEqual(fault(bare), [code, place], text)

    def test_1_ahead_of_2_and_all_others(self):
        for text in ("!", "item", "measures m up, m up ;", TWO + "item a : 2000, 1 ;", TWO):
            self.assertEqual(fault(text + " " * 4096), [1, 4096])
        self.assertEqual(fault("measures m up ;" + " " * 4096 + "!"), [1, 4096])

    def test_2_ahead_of_the_others_though_further_right(self):
        five = "measures a up, b up, c up, d up, e up ;"
        for begin in ("item ", five, "measures m up, m up ;", "measures m up ; item a : 2000 ;"):
            self.told_at_mark(2, begin + " ^!")
            self.told_at_mark(2, begin + " ^007")
            self.told_at_mark(2, begin + " ^1000000001")
            self.told_at_mark(2, begin + " ^" + "n" * 17)

    def test_2_is_the_first_such_place(self):
        self.told_at_mark(2, "measures ^! 007 ?")
        self.told_at_mark(2, "measures ^007 ! ?")

    def test_the_others_from_left_to_right(self):
        self.told_at_mark(7, TWO + "item a : ^1001, 2 ; item a : 1 ;")
        self.told_at_mark(5, TWO + "item a : 1, 2 ; item ^a : 1001 ;")
        self.told_at_mark(3, TWO + "item a : 1 ^; item a : 1001, 2 ;")
        self.told_at_mark(5, "measures m up, ^m up, o up, p up, q up ;")
        self.told_at_mark(4, "measures m up, n up, o up, p up, ^q up, q up ;")
        self.told_at_mark(7, TWO + "item a : ^1001")
        self.told_at_mark(5, "measures m up, ^m")
        sixteen = list_text([True], [[k] for k in range(16)])
        self.told_at_mark(7, sixteen.replace(": 15", ": ^1500") + "item i0 : 1 ;")

    def test_the_lesser_number_at_one_token(self):
        self.told_at_mark(4, "measures m up, n up, o up, p up, ^m up ;")
        self.told_at_mark(3, "measures ^2000 up ;")
        self.told_at_mark(3, TWO + "item ^2000 : 1, 2 ;")
        self.told_at_mark(3, TWO + "item a : 1, 2 ; item b ^a : 1, 2 ;")


if __name__ == "__main__":
    unittest.main()
