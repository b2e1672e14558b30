"""Points [2], [3] (i), [4], [5], [9], [18] and the interface of heapeffects/formats.py."""

import itertools
import random
import re
import unittest

from heapeffects.effects import Effect
from heapeffects.errors import InvalidBag, InvalidEffect, InvalidProgram, ParseError
from heapeffects.formats import format_bag, format_effect, format_program, parse_bag, parse_effect, parse_program
from tests import by_hand
from tests.wrong_values import HOSTILE, NOT_BAGS, NOT_EFFECTS, NOT_PROGRAMS, ErrorCase

HUGE = 10 ** 30
BODY = (("insert", 3, 1), ("insert", 7, 1), ("remove", 1))
PARSERS = (parse_bag, parse_program, parse_effect)
NOT_TEXTS = (None, True, False, 0, 5, b"-", b"5", (), ("5",), [], ["5"], {}, {"5": 1}, set(), 1.5, str, object(), HOSTILE,
             ((5, 1),), Effect.identity())

# What the words look like: a count above 1, other integers, and the words of the three formats.
MORE = "(?:[2-9]|[1-9][0-9]+)"
COUNT = "(?:0|[1-9][0-9]*)"
NUMBER = "(?:0|-?[1-9][0-9]*)"
ENTRY = re.compile(f"({NUMBER})(?:x{MORE})?")
STEP = re.compile(f"\\+{NUMBER}(?:x(?:0|{MORE}))?|!(?:0|{MORE})?")
CLOSING = re.compile(f"\\]{COUNT}")


def bag_stands(words):
    """How many words at the front make a bag or the beginning of one, and whether they make a bag."""
    if words[:1] == ["-"]:
        return 1, True
    last = None
    for index, word in enumerate(words):
        found = ENTRY.fullmatch(word)
        if not found or (last is not None and int(found[1]) <= last):
            return index, index > 0
        last = int(found[1])
    return len(words), bool(words)


def bag_position(words):
    """The index of the first word of a bag that cannot stand, or None."""
    many, _ = bag_stands(words)
    return many if many < len(words) else None


def effect_position(words):
    """The same for an effect; the number of words if some are missing."""
    at = 0
    for part in range(3):
        if part == 1:
            many, whole = (1, True) if words[at:] and re.fullmatch(COUNT, words[at]) else (0, False)
        else:
            many, whole = bag_stands(words[at:])
        at += many
        if part < 2:
            if not whole or words[at:at + 1] != ["|"]:
                return at
            at += 1
        elif not whole or at < len(words):
            return at
    return None


def program_position(words):
    """The same for a program, by what may stand next: more steps, or what ends the program."""
    depth, begun, ended = 1, False, False
    for index, word in enumerate(words):
        if not ended and STEP.fullmatch(word):
            begun = True
        elif not ended and word == "[" and depth < 8:
            depth, begun = depth + 1, False
        elif not begun and not ended and word == "-":
            ended = True
        elif (begun or ended) and depth > 1 and CLOSING.fullmatch(word):
            depth, begun, ended = depth - 1, True, False
        else:
            return index
    return len(words) if depth > 1 or not (begun or ended) else None


class Formatted(ErrorCase):
    """What the texts look like."""

    def test_bags(self):
        for bag, text in (((), "-"), (((5, 1),), "5"), (((5, 2),), "5x2"), (((0, 1),), "0"), (((-5, 1),), "-5"),
                          (((-5, 12), (0, 2), (7, 1)), "-5x12 0x2 7"),
                          (((-HUGE, HUGE), (HUGE, 1)), f"-{HUGE}x{HUGE} {HUGE}")):
            self.assertEqual(format_bag(bag), text)
            self.assertEqual(parse_bag(text), bag)

    def test_programs(self):
        for program, text in (
                ((), "-"), ((("insert", 5, 1),), "+5"), ((("insert", -5, 2),), "+-5x2"), ((("insert", 0, 0),), "+0x0"),
                ((("insert", 5, 10),), "+5x10"), ((("remove", 1),), "!"), ((("remove", 0),), "!0"),
                ((("remove", 2),), "!2"), ((("remove", HUGE),), f"!{HUGE}"), ((("insert", HUGE, HUGE),), f"+{HUGE}x{HUGE}"),
                ((("repeat", 3, ()),), "[ - ]3"), ((("repeat", 1, BODY),), "[ +3 +7 ! ]1"),
                ((("repeat", 0, BODY),), "[ +3 +7 ! ]0"),
                ((("repeat", HUGE, BODY), ("remove", 1)), f"[ +3 +7 ! ]{HUGE} !"),
                ((("repeat", 2, (("repeat", 1, ()), ("repeat", 0, (("remove", 1),)))), ("insert", 4, 1)),
                 "[ [ - ]1 [ ! ]0 ]2 +4"),
                (by_hand.nested(8, BODY, 2), "[ [ [ [ [ [ [ +3 +7 ! ]2 ]2 ]2 ]2 ]2 ]2 ]2"),
                (by_hand.nested(8, (), HUGE), "[ [ [ [ [ [ [ -" + f" ]{HUGE}" * 7)):
            self.assertEqual(format_program(program), text)
            self.assertEqual(parse_program(text), program)

    def test_effects(self):
        for parts, text in ((((), 0, ()), "- | 0 | -"), ((((5, 1),), 0, ((5, 1),)), "5 | 0 | 5"),
                            ((((5, 1),), 1, ()), "5 | 1 | -"), (((), HUGE, ()), f"- | {HUGE} | -"),
                            ((((-3, 2), (7, HUGE)), HUGE, ((-3, 1), (7, 2))), f"-3x2 7x{HUGE} | {HUGE} | -3 7x2")):
            effect = Effect(*parts)
            self.assertEqual(format_effect(effect), text)
            self.assertEqual(parse_effect(text), effect)
            self.assertIs(type(parse_effect(text)), Effect)


class ThereAndBack(ErrorCase):
    """[3] (i): formatted values are parsed back to equal ones."""

    def test_all_small_bags_and_effects(self):
        for bag in by_hand.bags((-10, -1, 0, 1, 12), 4):
            self.assertEqual(parse_bag(format_bag(bag)), bag)
        for triple in by_hand.triples((-1, 0, 3), 3, 3):
            self.assertEqual(parse_effect(format_effect(Effect(*triple))), Effect(*triple))

    def test_random_programs(self):
        source = random.Random(1)
        for depth in range(1, 9):
            for _ in range(60):
                program = by_hand.random_program(source, (-12, -1, 0, 1, 10, HUGE, -HUGE), 4, depth)
                text = format_program(program)
                self.assertEqual(parse_program(text), program)
                self.assertNotIn("  ", text)

    def test_hundred_digits(self):
        great = 10 ** 100 - 1
        for bag in (((-great, great), (great, great)),):
            self.assertEqual(parse_bag(format_bag(bag)), bag)
        program = (("insert", -great, great), ("remove", great), ("repeat", great, (("insert", great, 0),)))
        self.assertEqual(parse_program(format_program(program)), program)
        effect = Effect(((-great, great),), great, ())
        self.assertEqual(parse_effect(format_effect(effect)), effect)

    def test_long_texts(self):
        bag = tuple((number, number % 3 + 1) for number in range(-50, 50))
        self.assertEqual(parse_bag(format_bag(bag)), bag)
        program = tuple(("insert", number, number % 3) for number in range(480)) + (("repeat", 2, (("remove", 1),)),)
        self.assertEqual(parse_program(format_program(program)), program)


class Positions(ErrorCase):
    """ParseError: the first word that cannot stand, or the number of words."""

    def refused(self, parse, text, position):
        self.assert_error(ParseError, "position", position, parse, text)

    def check(self, words):
        """Each parser on these words, against the tables above; how many take them."""
        text = " ".join(words)
        taken = 0
        for parse, write, position_of in ((parse_bag, format_bag, bag_position),
                                          (parse_program, format_program, program_position),
                                          (parse_effect, format_effect, effect_position)):
            position = position_of(words)
            try:
                value = parse(text)
            except ParseError as error:
                if position is None:
                    # Three well-formed parts that make no effect.
                    self.assertIs(parse, parse_effect, text)
                    position = len(words)
                self.assertEqual(error.position, position, (parse.__name__, text))
                continue
            self.assertIsNone(position, (parse.__name__, text))
            self.assertEqual(write(value), text)
            taken += 1
        return taken

    def test_all_short_texts(self):
        vocabulary = ("", "-", "0", "3", "-3", "3x2", "3x1", "3x0", "|", "+3", "+3x1", "!", "!0", "!1", "[", "]1", "]")
        taken = 0
        for length in range(1, 5):
            for words in itertools.product(vocabulary, repeat=length):
                taken += self.check(list(words))
        self.assertGreater(taken, 150)

    def test_effects_of_few_words(self):
        taken = 0
        for length in (5, 6, 7):
            for words in itertools.product(("-", "1", "2", "|"), repeat=length):
                taken += self.check(list(words))
        self.assertGreater(taken, 10)

    def test_programs_of_few_words(self):
        taken = 0
        for words in itertools.product(("-", "+3", "[", "]2"), repeat=7):
            taken += self.check(list(words))
        self.assertGreater(taken, 20)

    def test_changed_texts(self):
        source = random.Random(2)
        words = ("", "-", "3", "4x2", "05", "|", "+5", "!", "!1", "[", "]3", "]", "x", "+", "-0", "9")
        for _ in range(3000):
            program = by_hand.random_program(source, (1, 2), 3, 4)
            triple = source.choice(((((3, 1), (4, 2)), 2, ((4, 1),)), ((), 0, ()), (((3, 2),), 5, ())))
            text = source.choice((format_program(program), format_effect(Effect(*triple)), format_bag(triple[0])))
            changed = text.split(" ")
            at = source.randint(0, len(changed))
            changed[at:at + source.randint(0, 1)] = source.choices(words, k=source.randint(0, 1))
            self.check(changed or [""])

    def test_words_that_cannot_stand(self):
        # Each as the only word, and behind words that can.
        for word in ("", "05", "-05", "-0", "00", "--5", "+5", "5-", "5.0", "5,", "x0", "x1", "x2", "x", "5x", "5x0", "5x1",
                     "5x01", "5x02", "5x-2", "5x+2", "5x2x3", "5xx2", "5X2", "x5x2", "0x", "1e3", "1_0", "0b1", "five", "!",
                     "[", "]", "]1", "|", "- -", "5\n", "\n", "5\n6", "(", ";"):
            first = word.split(" ")[0]
            self.refused(parse_bag, word, 1 if word == "- -" else 0)
            if first != "-":
                self.refused(parse_bag, "-7 " + word, 1)
                self.refused(parse_bag, "-7 2x3 " + word + " 9", 2)
        for word in ("", "5", "+", "++5", "+05", "+-05", "+-0", "+--5", "-5", "+5x", "+5x1", "+5x01", "+5x-1", "+5x+2",
                     "+x2", "+5x2x2", "+5X2", "!!", "!1", "!01", "!-1", "!+2", "!x2", "!x", "[[", "[1",
                     "]", "]1", "]-1", "]01", "|", "x", "\n", "!\n", "+5\n", "+5.0"):
            self.refused(parse_program, word, 0)
            self.refused(parse_program, "+5 " + word, 1)
            self.refused(parse_program, "- " + word, 1)
            if word != "]1":
                self.refused(parse_program, "[ ! " + word + " ]2", 2)
        for word in ("", "-1", "-0", "01", "-", "+1", "1x2", "x", "|", "!", "1\n", "1.0"):
            self.refused(parse_effect, f"5 | {word} | 5", 2)

    def test_spaces(self):
        for parse, word in ((parse_bag, "5"), (parse_program, "+5"), (parse_effect, "5")):
            self.refused(parse, "", 0)
            self.refused(parse, " ", 0)
            self.refused(parse, " " + word, 0)
            self.refused(parse, "  " + word, 0)
            self.refused(parse, word + " ", 1)
            self.refused(parse, word + "  ", 1)
            self.refused(parse, word + "  " + word, 1)
            self.refused(parse, "- ", 1)
        self.refused(parse_effect, "5 | 0 | 5 ", 5)
        self.refused(parse_effect, "5 |  0 | 5", 2)
        self.refused(parse_program, "[ +5 ]2 ", 3)
        self.refused(parse_program, "[  +5 ]2", 1)

    def test_the_order_of_a_bag(self):
        for text, position in (("5 3", 1), ("5 5", 1), ("5x2 5", 1), ("5 5x2", 1), ("3 5 4 9", 2), ("-3 -5", 1), ("0 -1", 1),
                               ("- 5", 1), ("5 -", 1), ("- -", 1), ("-1 0 1 1", 3), ("1 10 9", 2)):
            self.refused(parse_bag, text, position)
            # The same as the first and as the last part of an effect.
            self.refused(parse_effect, text + " | 9 | 5", position)
            self.refused(parse_effect, "5 | 9 | " + text, position + 4)

    def test_missing_words(self):
        for text in ("[", "[ +5", "[ -", "[ [ - ]2", "[ [", "+5 [", "[ +5 ]2 [ !"):
            self.refused(parse_program, text, len(text.split(" ")))
        for text in ("5", "-", "5 6x2", "5 |", "5 | 0", "5 6 | 0", "5 | 0 |", "- | 0 |", "- | 0"):
            self.refused(parse_effect, text, len(text.split(" ")))

    def test_eight_deep(self):
        self.assertEqual(parse_program("[ " * 7 + "-" + " ]1" * 7), by_hand.nested(8, ()))
        for inner in ("-", "!", "[ - ]1"):
            self.refused(parse_program, "[ " * 8 + inner + " ]1" * 8, 7)
        self.refused(parse_program, "[ " * 7 + "+5 [ - ]1" + " ]1" * 7, 8)
        self.assertEqual(parse_program("[ - ]1 " * 9 + "!"), (("repeat", 1, ()),) * 9 + (("remove", 1),))

    def test_words_behind_the_end(self):
        for text, position in (("- +5", 1), ("- -", 1), ("[ - ]2 ]2", 3), ("+5 ]2", 1), ("[ - - ]2", 2), ("[ - +5 ]2", 2),
                               ("[ ]2", 1), ("[ +5 - ]2", 2), ("[ +5 ]2 -", 3), ("- [ - ]2", 1)):
            self.refused(parse_program, text, position)
        for text, position in (("5 | 0 | 5 |", 5), ("5 | 0 | - 5", 5), ("- 5 | 0 | 5", 1), ("5 | 0 0 | 5", 3),
                               ("| 0 | 5", 0), ("5 | | 5", 2), ("5 | 0 | |", 4), ("- | 0 | - -", 5), ("5 | 0 5", 3)):
            self.refused(parse_effect, text, position)

    def test_parts_that_make_no_effect(self):
        for text in ("5 | 0 | -", "5 | 0 | 6", "- | 0 | 5", "5 | 3 | 5x2", "5x3 | 1 | 5", "5 6 7 | 2 | -",
                     f"5x{HUGE} | {HUGE - 1} | -", "-5 | 1 | 5", "3 | 1 | 3x2"):
            self.refused(parse_effect, text, len(text.split(" ")))
        # A word that cannot stand comes first, also where the parts before it make none.
        self.refused(parse_effect, "5 | 0 | 7 6", 5)
        self.refused(parse_effect, "5 | 0 | 7 x", 5)

    def test_values_that_are_not_texts(self):
        for parse in PARSERS:
            for wrong in NOT_TEXTS:
                self.refused(parse, wrong, 0)


class General(ErrorCase):
    """[2]: names of arguments and wrong arguments."""

    def test_arguments_by_name(self):
        self.assertEqual(format_bag(bag=((5, 2),)), "5x2")
        self.assertEqual(format_program(program=BODY), "+3 +7 !")
        self.assertEqual(format_effect(effect=Effect.of(BODY)), "3 7 | 1 | 7")
        self.assertEqual(parse_bag(text="5x2"), ((5, 2),))
        self.assertEqual(parse_program(text="+3 +7 !"), BODY)
        self.assertEqual(parse_effect(text="3 7 | 1 | 7"), Effect.of(BODY))

    def test_wrong_arguments(self):
        for wrong in NOT_BAGS:
            self.assert_error(InvalidBag, "value", wrong, format_bag, wrong)
        for wrong, path in NOT_PROGRAMS:
            self.assert_error(InvalidProgram, "path", path, format_program, wrong)
        for wrong in NOT_EFFECTS:
            self.assert_error(InvalidEffect, "part", "effect", format_effect, wrong)


if __name__ == "__main__":
    unittest.main()
