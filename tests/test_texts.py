import unittest

from tests.helper import ask, as_bytes, join, last, list_text, load, other

HEAD = "measures m up ;"
ONE_ITEM = [1, 1, 1]


def reads(text):
    return last(load(text))


def unbeaten_of_one_measure(values_told):
    """Which of these values, written as in a text, are the greatest: one list joined with a single item."""
    items = "".join(f"item i{k} : {value} ;" for k, value in enumerate(values_told))
    return last(load(HEAD + items), other(HEAD + "item x : 0 ;"), join())[3::2]


class Blanks(unittest.TestCase):
    def test_the_three_blanks_part_tokens(self):
        self.assertEqual(reads("measures\tm\nup ;item\t \na : 1\n;"), ONE_ITEM)

    def test_blanks_and_remarks_at_both_ends(self):
        self.assertEqual(reads(" \t\n# one\n#two\n measures m up ; item a : 1 ; \n# three"), ONE_ITEM)

    def test_remarks_between_any_two_tokens_and_right_behind_a_token(self):
        self.assertEqual(
            reads("measures#\nm#x\nup#;\n;#\nitem#measures\na#!\n:#\xe9\n-#-\n1#2\n;#end"), ONE_ITEM
        )

    def test_a_remark_ends_before_the_line_end_only(self):
        self.assertEqual(reads(HEAD + "# item a : 1 ;\titem b : 2 ; # item c : 3 ;\nitem d : 4 ;"), ONE_ITEM)

    def test_any_byte_but_the_line_end_is_in_a_remark(self):
        remark = [35] + [byte for byte in range(256) if byte != 10] + [10]
        self.assertEqual(reads(remark + as_bytes(HEAD) + remark), [1, 1, 0])

    def test_no_blanks_where_tokens_part_themselves(self):
        self.assertEqual(reads("measures m up,n down;item a:1,-2;item b:3,4;"), [1, 2, 2])

    def test_other_white_bytes_are_no_blanks(self):
        for byte in (0, 11, 12, 13, 160):
            self.assertEqual(reads(as_bytes(HEAD) + [byte]), [0, 2, len(HEAD)])

    def test_the_one_form_is_read(self):
        self.assertEqual(reads(list_text([True, False], [[1, -2], [0, 1000]])), [1, 2, 2])


class Names(unittest.TestCase):
    def test_sixteen_bytes_but_not_seventeen(self):
        self.assertEqual(reads(f"measures {'n' * 16} up ; item {'Zz09' * 4} : 1 ;"), ONE_ITEM)
        self.assertEqual(reads(f"measures {'n' * 17} up ;"), [0, 2, 9])
        self.assertEqual(reads(f"{HEAD} item {'Zz09' * 4}z : 1 ;"), [0, 2, 21])

    def test_all_letters_and_digits(self):
        for name in ("ABCDEFGHIJKLM", "NOPQRSTUVWXYZ", "abcdefghijklm", "nopqrstuvwxyz", "a0123456789"):
            self.assertEqual(reads(f"measures {name} up ; item {name} : 1 ;"), ONE_ITEM)

    def test_bytes_next_to_letters_and_digits_are_no_token(self):
        for byte in (47, 64, 91, 96, 123, 255):
            self.assertEqual(reads(as_bytes("measures m") + [byte] + as_bytes(" up ;")), [0, 2, 10])

    def test_the_four_words_are_no_names(self):
        for word in ("measures", "up", "down", "item"):
            self.assertEqual(reads(f"measures {word} up ;"), [0, 3, 9])
            self.assertEqual(reads(f"{HEAD} item {word} : 1 ;"), [0, 3, 21])

    def test_what_only_looks_like_a_word_is_a_name(self):
        for name in ("Measures", "UP", "downs", "ite", "item1", "u"):
            self.assertEqual(reads(f"measures {name} up ; item {name} : 1 ;"), ONE_ITEM)
            self.assertEqual(reads(f"{name} m up ;"), [0, 3, 0])

    def test_great_and_small_letters_are_unlike(self):
        self.assertEqual(reads("measures m up, M up ; item a : 1, 2 ; item A : 1, 2 ;"), [1, 2, 2])

    def test_a_name_does_not_begin_with_a_digit(self):
        self.assertEqual(reads("measures 1m up ;"), [0, 3, 9])
        self.assertEqual(reads("measures m up ; item 0a : 1 ;"), [0, 3, 21])

    def test_a_measure_and_an_item_may_share_a_name(self):
        self.assertEqual(reads("measures m up ; item m : 1 ;"), ONE_ITEM)


class Values(unittest.TestCase):
    def value(self, told):
        return reads(f"{HEAD} item a : {told} ;")

    def test_up_to_1000_either_way(self):
        for told in ("0", "1", "9", "10", "999", "1000", "-1000", "-1", "-0", "- 1000", "-\t\n#-\n 7"):
            self.assertEqual(self.value(told), ONE_ITEM, told)

    def test_above_1000_is_fault_7_at_the_number(self):
        for told in ("1001", "1000000000"):
            self.assertEqual(self.value(told), [0, 7, 25])
            self.assertEqual(self.value("-" + told), [0, 7, 26])
            self.assertEqual(self.value("-  " + told), [0, 7, 28])

    def test_too_great_a_number_is_fault_2(self):
        for told in ("1000000001", "9999999999", "10000000000", "1" * 1000):
            self.assertEqual(self.value(told), [0, 2, 25])
            self.assertEqual(self.value("-" + told), [0, 2, 26])

    def test_a_needless_zero_is_fault_2_at_the_number(self):
        for told in ("00", "01", "0001000", "01000000000", "00000000000"):
            self.assertEqual(self.value(told), [0, 2, 25])
            self.assertEqual(self.value("-" + told), [0, 2, 26])

    def test_thousands_of_digits(self):
        text = as_bytes(HEAD + "item a : " + "7" * 4000 + " ;")
        self.assertEqual(reads(text), [0, 2, len(HEAD) + 9])

    def test_values_have_their_worth(self):
        self.assertEqual(unbeaten_of_one_measure(["9", "10", "-11", "8"]), [1])
        self.assertEqual(unbeaten_of_one_measure(["-9", "-10", "- 8", "-1000"]), [2])
        self.assertEqual(unbeaten_of_one_measure(["1000", "999", "1000"]), [0, 2])
        self.assertEqual(unbeaten_of_one_measure(["120", "102", "210", "201"]), [2])

    def test_minus_zero_is_zero(self):
        self.assertEqual(unbeaten_of_one_measure(["-0", "0", "- 0", "-1"]), [0, 1, 2])

    def test_a_sign_alone_or_twice(self):
        self.assertEqual(self.value("-"), [0, 3, 27])
        self.assertEqual(self.value("--1"), [0, 3, 26])
        self.assertEqual(self.value("- a"), [0, 3, 27])
        self.assertEqual(self.value("+1"), [0, 2, 25])
        self.assertEqual(self.value("1.5"), [0, 2, 26])


class Sizes(unittest.TestCase):
    def test_4096_bytes_but_not_4097(self):
        text = HEAD + "item a : 1 ;"
        self.assertEqual(reads(text + " " * (4096 - len(text))), ONE_ITEM)
        self.assertEqual(reads(text + " " * (4097 - len(text))), [0, 1, 4096])
        self.assertEqual(reads("#" * 4097), [0, 1, 4096])
        self.assertEqual(reads([0] * 8192), [0, 1, 4096])

    def test_none_to_16_items(self):
        for count in (0, 1, 15, 16):
            self.assertEqual(reads(list_text([True], [[k] for k in range(count)])), [1, 1, count])

    def test_a_seventeenth_item_is_fault_4_at_its_word(self):
        sixteen = list_text([True], [[k] for k in range(16)])
        self.assertEqual(reads(sixteen + "item z : 1 ;"), [0, 4, len(sixteen)])
        self.assertEqual(reads(sixteen + "  item ! "), [0, 2, len(sixteen) + 7])
        self.assertEqual(reads(sixteen + "item"), [0, 4, len(sixteen)])
        self.assertEqual(reads(sixteen + "up"), [0, 3, len(sixteen)])

    def test_one_to_four_measures(self):
        for count in (1, 2, 3, 4):
            ups = [k != 1 for k in range(count)]
            self.assertEqual(reads(list_text(ups, [list(range(count))])), [1, count, 1])
        self.assertEqual(reads("measures ;"), [0, 3, 9])

    def test_a_fifth_measure_is_fault_4_at_its_name(self):
        four = "measures a up, b down, c up, d down"
        self.assertEqual(reads(four + ", e up ;"), [0, 4, len(four) + 2])
        self.assertEqual(reads(four + ", e"), [0, 4, len(four) + 2])
        self.assertEqual(reads(four + ", ;"), [0, 3, len(four) + 2])
        self.assertEqual(reads(four + ", up ;"), [0, 3, len(four) + 2])
        self.assertEqual(reads(four + ", 5 ;"), [0, 3, len(four) + 2])


class Ends(unittest.TestCase):
    def test_nothing_but_blanks_and_remarks(self):
        for text in ("", " ", "\n\t ", "#", "# measures m up ;", " #a\n#b\n "):
            self.assertEqual(reads(text), [0, 3, len(text)], repr(text))

    def test_a_text_that_ends_in_the_middle(self):
        tokens = "measures m up , n down ; item a : - 1 , 2 ;".split()
        whole = (7, len(tokens))
        for count in range(len(tokens) + 1):
            for tail in ("", " ", " # and so on\n"):
                text = " ".join(tokens[:count]) + tail
                if count in whole:
                    self.assertEqual(reads(text)[0], 1, repr(text))
                else:
                    self.assertEqual(reads(text), [0, 3, len(text)], repr(text))

    def test_other_reads_texts_as_load_does(self):
        for text in ("", HEAD, HEAD + "item a : 1 ;", HEAD + "item a : 1001 ;", "measures m up, m up ;", "!" * 5000):
            told = ask(load(HEAD), other(text))[1]
            self.assertEqual(told, reads(text))


if __name__ == "__main__":
    unittest.main()
