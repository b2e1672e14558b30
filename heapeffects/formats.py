"""Formats: bags, programs and effects as texts, and back.

A function that reads a part of a text takes the words of the text and the index of the first word of the
part; it returns what the words say, and the index of the first word behind them.
"""

from heapeffects.bags import check_bag
from heapeffects.effects import Effect, check_effect
from heapeffects.errors import ParseError
from heapeffects.programs import DEEPEST, check_program

EMPTY = "-"
BAR = "|"
OPENING = "["
CLOSING = "]"
INSERTION = "+"
REMOVAL = "!"
TIMES = "x"
DIGITS = "0123456789"


def format_bag(bag):
    """The text of a bag."""
    check_bag(bag)
    return " ".join(_words_of_bag(bag))


def format_program(program):
    """The text of a program."""
    check_program(program)
    return " ".join(_words_of_program(program))


def format_effect(effect):
    """The text of an effect."""
    check_effect(effect)
    words = _words_of_bag(effect.inserted) + [BAR, str(effect.removals), BAR] + _words_of_bag(effect.survivors)
    return " ".join(words)


def _words_of_bag(bag):
    if not bag:
        return [EMPTY]
    return [_with_count(str(number), TIMES, count) for number, count in bag]


def _with_count(text, sign, count):
    """A word with its count behind a sign; a count of 1 is left out."""
    if count == 1:
        return text
    return f"{text}{sign}{count}"


def _words_of_program(program):
    if not program:
        return [EMPTY]
    words = []
    for step in program:
        words.extend(_words_of_step(step))
    return words


def _words_of_step(step):
    if step[0] == "insert":
        return [_with_count(f"{INSERTION}{step[1]}", TIMES, step[2])]
    if step[0] == "remove":
        return [_with_count(REMOVAL, "", step[1])]
    return [OPENING] + _words_of_program(step[2]) + [f"{CLOSING}{step[1]}"]


def parse_bag(text):
    """The bag that has this text."""
    words = _words(text)
    bag, at = _read_bag(words, 0)
    _check_end(words, at)
    return bag


def parse_program(text):
    """The program that has this text."""
    words = _words(text)
    program, at = _read_program(words, 0, 1)
    _check_end(words, at)
    return program


def parse_effect(text):
    """The effect that has this text."""
    words = _words(text)
    inserted, at = _read_bag(words, 0)
    at = _read_bar(words, at)
    removals, at = _read_removals(words, at)
    at = _read_bar(words, at)
    survivors, at = _read_bag(words, at)
    _check_end(words, at)
    if not Effect.is_valid(inserted, removals, survivors):
        raise ParseError(len(words))
    return Effect(inserted, removals, survivors)


def _words(text):
    if not isinstance(text, str):
        raise ParseError(0)
    return text.split(" ")


def _check_end(words, at):
    """Raise ParseError unless no word is left at this index."""
    if at < len(words):
        raise ParseError(at)


def _word(words, at):
    """The word at this index, which must not be missing."""
    if at == len(words):
        raise ParseError(at)
    return words[at]


def _read_bar(words, at):
    """The index behind a bar."""
    if _word(words, at) != BAR:
        raise ParseError(at)
    return at + 1


def _read_removals(words, at):
    count = _count_in(_word(words, at))
    if count is None:
        raise ParseError(at)
    return count, at + 1


def _read_bag(words, start):
    if _word(words, start) == EMPTY:
        return (), start + 1
    entries = []
    at = start
    # There is at least one entry, and a bar ends the bag (it cannot stand where no bar is asked for).
    while at == start or (at < len(words) and words[at] != BAR):
        entry = _entry_in(words[at])
        if entry is None or (entries and entry[0] <= entries[-1][0]):
            raise ParseError(at)
        entries.append(entry)
        at = at + 1
    return tuple(entries), at


def _read_program(words, start, depth):
    """A program that lies so deep."""
    if _word(words, start) == EMPTY:
        return (), start + 1
    steps = []
    at = start
    # There is at least one step, and the end of a repeat ends its program.
    while at == start or (at < len(words) and not words[at].startswith(CLOSING)):
        step, at = _read_step(words, at, depth)
        steps.append(step)
    return tuple(steps), at


def _read_step(words, start, depth):
    if words[start] == OPENING and depth < DEEPEST:
        program, at = _read_program(words, start + 1, depth + 1)
        count = _closing_count_in(_word(words, at))
        if count is None:
            raise ParseError(at)
        return ("repeat", count, program), at + 1
    step = _step_in(words[start])
    if step is None:
        raise ParseError(start)
    return step, start + 1


def _step_in(word):
    """The insertion or the removal that stands in a word, or None."""
    if word.startswith(INSERTION):
        pair = _pair_in(word[1:])
        return None if pair is None else ("insert", pair[0], pair[1])
    if word == REMOVAL:
        return ("remove", 1)
    if word.startswith(REMOVAL):
        count = _other_count_in(word[1:])
        return None if count is None else ("remove", count)
    return None


def _closing_count_in(word):
    """The count that stands in the last word of a repeat, or None."""
    if not word.startswith(CLOSING):
        return None
    return _count_in(word[1:])


def _entry_in(word):
    """The entry of a bag that stands in a word, or None."""
    pair = _pair_in(word)
    if pair is None or pair[1] == 0:
        return None
    return pair


def _pair_in(word):
    """The number and the count that stand in a word, or None."""
    text, sign, counted = word.partition(TIMES)
    number = _number_in(text)
    count = _other_count_in(counted) if sign == TIMES else 1
    if number is None or count is None:
        return None
    return (number, count)


def _other_count_in(word):
    """The count that stands in a word where 1 is left out, or None."""
    count = _count_in(word)
    if count == 1:
        return None
    return count


def _number_in(word):
    """The integer that stands in a word, or None."""
    if not word.startswith("-"):
        return _count_in(word)
    count = _count_in(word[1:])
    if count is None or count == 0:
        return None
    return -count


def _count_in(word):
    """The integer of at least 0 that stands in a word, or None."""
    if not word or not all([letter in DIGITS for letter in word]):
        return None
    if word[0] == "0" and len(word) > 1:
        return None
    return int(word)
