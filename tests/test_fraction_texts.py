import random
import unittest
from fractions import Fraction

from closehaul.errors import NoText
from closehaul.fractions import fraction_read, fraction_written
from tests.helper import is_fraction, number_of_figures

NINES = "9" * 600
ONES = "1" * 600

REFUSED = (
    # no lowest numbers, or a bottom of 1
    "2/4", "-2/4", "6/3", "3/1", "-3/1", "0/1", "0/5", "1/1", "5/5",
    # nought with a sign or as a bottom
    "-0", "-0/1", "-0/5", "1/0", "0/0", "-1/0", "1/-0",
    # signs that do not belong
    "+1", "+0", "+1/2", "1/+2", "1/-2", "-1/-2", "--1", "-+1", "1-", "1/2-", "- 1", "-", "-/2", "1/-", "+", "+-1",
    "(1)", "1.0", "1,0", "1e3", "0x10", "0b1", "1:2", "a", "~", "1a", "a1", "1/2a", "/", "1\\2", "1//2", "one",
    # blanks and line ends
    "", " ", " 1", "1 ", "1 /2", "1/ 2", " 1/2", "1/2 ", "1 2", "\n", "1\n", "\n1", "1\n2", "1/2\n", "\n1/2", "1\n/2",
    "1/\n2", "-\n1", "1\r", "1/2\r\n", "0\n",
    # noughts ahead
    "00", "01", "007", "-01", "-00", "01/2", "1/02", "1/00", "00/1", "0" * 600 + "1",
    # underscores
    "1_0", "1_000/7", "1/1_0", "_1", "1_",
    # strokes
    "1/2/3", "1/2/", "/1/2", "1/", "/2", "-1/",
)


class Written(unittest.TestCase):
    """[1.2]"""

    def test_by_hand(self):
        for fraction, text in [((-3, 4), "-3/4"), ((7, 1), "7"), ((0, 1), "0"), ((-7, 1), "-7"), ((3, 4), "3/4"),
                               ((10, 1), "10"), ((-100, 1), "-100"), ((1, 10), "1/10"), ((1, 1), "1")]:
            with self.subTest(text=text):
                self.assertEqual(fraction_written(fraction), text)
                self.assertIs(type(fraction_written(fraction)), str)

    def test_noughts_within_great_numbers(self):
        for figures in range(50, 300):
            power = 10 ** figures
            self.assertEqual(fraction_written((power, 1)), "1" + "0" * figures)
            self.assertEqual(fraction_written((power + 5, 1)), "1" + "0" * (figures - 1) + "5")
            self.assertEqual(fraction_written((1 - power, power)), "-" + "9" * figures + "/1" + "0" * figures)

    def test_several_thousand_figures(self):
        for figures in (4299, 4300, 4301, 5000, 9001):
            noughts = "0" * figures
            power = 10 ** figures
            self.assertEqual(fraction_written((power, 1)), "1" + noughts)
            self.assertEqual(fraction_written((-power, 1)), "-1" + noughts)
            self.assertEqual(fraction_written((-7, power)), "-7/1" + noughts)
            self.assertEqual(fraction_written((power - 1, power)), "9" * figures + "/1" + noughts)

    def test_several_thousand_mixed_figures(self):
        source = random.Random(5)
        for count in (4300, 4301, 6789):
            figures = "7" + "".join(source.choice("0123456789") for place in range(count - 1))
            number = number_of_figures(figures)
            self.assertEqual(fraction_written((number, 1)), figures)
            self.assertEqual(fraction_written((-number, number - 1)),
                             "-" + figures + "/" + fraction_written((number - 1, 1)))


class Read(unittest.TestCase):
    """[1.2]"""

    def test_by_hand(self):
        for text, fraction in [("-3/4", (-3, 4)), ("7", (7, 1)), ("0", (0, 1)), ("-7", (-7, 1)), ("10/3", (10, 3)),
                               ("1/10", (1, 10)), ("-100/101", (-100, 101)), ("1", (1, 1)), ("-1/2", (-1, 2))]:
            with self.subTest(text=text):
                told = fraction_read(text)
                self.assertEqual(told, fraction)
                self.assertTrue(is_fraction(told))

    def test_what_is_written_is_read_again(self):
        source = random.Random(7)
        fractions = [(top, bottom) for top in range(-25, 26) for bottom in range(1, 26)]
        for figures in (5, 63, 64, 65, 128, 599, 600):
            most = 10 ** figures - 1
            for time in range(5):
                fractions.append((source.randint(-most, most), source.randint(1, most)))
        for top, bottom in fractions:
            value = Fraction(top, bottom)
            fraction = (value.numerator, value.denominator)
            self.assertEqual(fraction_read(fraction_written(fraction)), fraction)

    def test_every_short_text(self):
        # Of all texts of up to four of these signs just those are read that a fraction is written as.
        written = {}
        for top in range(-9999, 10000):
            for bottom in range(1, 100):
                value = Fraction(top, bottom) if abs(top) < 100 else None
                if bottom == 1:
                    written[str(top)] = (top, 1)
                elif value is not None and value.denominator == bottom:
                    written[f"{top}/{bottom}"] = (top, bottom)
        texts = [""]
        for text in texts:
            if len(text) < 4:
                texts.extend(text + sign for sign in "0126-/ \n")
            try:
                told = fraction_read(text)
            except NoText:
                told = None
            self.assertEqual(told, written.get(text), repr(text))

    def test_600_figures_are_read(self):
        for sign, number in [("", 1), ("-", -1)]:
            self.assertEqual(fraction_read(sign + NINES), (number * (10 ** 600 - 1), 1))
            self.assertEqual(fraction_read(sign + "1/" + NINES), (number, 10 ** 600 - 1))
            self.assertEqual(fraction_read(sign + "1" + "0" * 599 + "/" + NINES), (number * 10 ** 599, 10 ** 600 - 1))

    def test_601_figures_are_refused(self):
        for text in ("1" + NINES, "-1" + NINES, "1" + NINES + "/7", "1/1" + NINES, "-1/1" + NINES, "1" + "0" * 600,
                     "1" + ONES + "/1" + "0" * 600, "0" + NINES, "1/0" + NINES):
            with self.subTest(signs=len(text), start=text[:4]):
                with self.assertRaises(NoText):
                    fraction_read(text)

    def test_texts_that_write_no_fraction_are_refused(self):
        for text in REFUSED:
            with self.subTest(text=text):
                with self.assertRaises(NoText):
                    fraction_read(text)

    def test_each_sign_beside_or_within_is_refused(self):
        signs = [chr(code) for code in range(ord(" "), ord("~") + 1) if chr(code) not in "0123456789%"] + ["\n"]
        for sign in signs:
            for text in (sign + "3/4", "3/4" + sign, "3" + sign + "/4", "3/" + sign + "4", sign + "7", "7" + sign,
                         sign, "1" + sign + "7/4", "3/1" + sign + "7"):
                if text not in ("-3/4", "-7", "1/7"):
                    with self.subTest(text=text):
                        with self.assertRaises(NoText):
                            fraction_read(text)

    def test_texts_of_4000_signs_are_refused(self):
        for text in ("1" * 4000, "-" + "1" * 3999, "1/" + "3" * 3998, "0" * 4000, " " * 4000, "/" * 4000, "-" * 4000,
                     "\n" * 4000, "1" + " " * 3999, "3/4" + "\n" * 3997, "~" * 4000):
            self.assertEqual(len(text), 4000)
            with self.subTest(start=text[:4]):
                with self.assertRaises(NoText):
                    fraction_read(text)

    def test_lowest_is_asked_of_great_numbers_too(self):
        with self.assertRaises(NoText):
            fraction_read(ONES + "/" + NINES)

    def test_the_same_question_has_the_same_answer(self):
        """[0.3]"""
        first = fraction_read("-3/4")
        fraction_read("7")
        self.assertEqual(fraction_read("-3/4"), first)
        self.assertEqual(fraction_written(first), fraction_written(first))


if __name__ == "__main__":
    unittest.main()
