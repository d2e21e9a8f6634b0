"""Machines to ask of, and what several tests need to look over an answer."""

import copy
import itertools

RING = ((1, 2, 3, 4, 0),)
EXCHANGES = ((1, 2, 3, 4, 0), (1, 0, 2, 3, 4))
UP_AND_SWAP = ((1, 2, 2), (1, 0, 2))
UP_AND_DOWN = ((1, 2, 3, 4, 4), (0, 0, 1, 2, 3))
FLAT = ((0, 0, 0, 0, 0), (1, 1, 1, 1, 1), (0, 1, 2, 3, 4))
EVERY_TURN_OF_FOUR = ((1, 2, 3, 0), (1, 0, 2, 3), (0, 1, 2, 2))

# Their counts of turns lie about the most that is told where none is told.
TURNS_399 = ((1, 2, 2, 4, 2), (4, 3, 3, 0, 0), (3, 2, 4, 1, 4), (1, 4, 3, 1, 2))
TURNS_400 = ((1, 4, 2, 0, 1), (2, 0, 1, 0, 4), (3, 1, 2, 4, 2))
TURNS_401 = ((1, 1, 3, 2, 2), (1, 2, 2, 0, 0), (1, 3, 2, 0, 2), (4, 3, 1, 3, 3))
TURNS_3125 = ((1, 2, 3, 4, 0), (1, 0, 2, 3, 4), (0, 0, 2, 3, 4))

KNOWN = (
    ((0,),), ((0,), (0,), (0,), (0,)), ((0, 1),), ((1, 0),), ((1, 1),), ((1, 0), (0, 0)), RING, EXCHANGES, UP_AND_SWAP,
    UP_AND_DOWN, FLAT, EVERY_TURN_OF_FOUR, TURNS_399, TURNS_400, TURNS_401, TURNS_3125,
)


def figures(seed):
    """Whole numbers without end, the same ones each time."""
    while True:
        seed = (seed * 6364136223846793005 + 1442695040888963407) % 2 ** 64
        yield seed >> 33


def drawn(rooms, letters, count):
    """So many machines, the same ones each time."""
    draw = figures(1000 * rooms + letters)
    return [tuple(tuple(next(draw) % rooms for room in range(rooms)) for letter in range(letters))
            for number in range(count)]


def every(rooms, letters):
    turns = list(itertools.product(range(rooms), repeat=rooms))
    return list(itertools.product(turns, repeat=letters))


def machines(count):
    """Known ones, all of the least ones, and so many of each greater count of rooms and letters."""
    made = list(KNOWN)
    for rooms in range(1, 6):
        for letters in range(1, 5):
            small = rooms ** (rooms * letters) <= 27
            made += every(rooms, letters) if small else drawn(rooms, letters, count)
    return made


def words(letters, longest):
    """All words of at most so many letters, each ahead of the next."""
    for length in range(longest + 1):
        for word in itertools.product(range(letters), repeat=length):
            yield list(word)


def word_place(word):
    return (len(word), word)


def slow_led(machine, room, word):
    here = room
    for letter in word:
        here = machine[letter][here]
    return here


def slow_carried(machine, rooms, word):
    return tuple(sorted({slow_led(machine, room, word) for room in rooms}))


def slow_behind(one, other):
    return tuple(other[thing] for thing in one)


def lists_in(told):
    if isinstance(told, list):
        yield told
    if isinstance(told, (list, tuple)):
        for part in told:
            yield from lists_in(part)


def spoil(told):
    for found in list(lists_in(told)):
        found.clear()
        found.append("spoilt")


def own_lists(case, ask, *handed):
    """What is handed in stays; what is told is the asker's own, with all lists in it."""
    kept = copy.deepcopy(handed)
    told = ask(*handed)
    before = copy.deepcopy(told)
    case.assertEqual(handed, kept)
    found = list(lists_in(told)) + list(lists_in(handed))
    case.assertEqual(len({id(one) for one in found}), len(found))
    again = ask(*handed)
    case.assertEqual(again, before)
    spoil(again)
    case.assertEqual(told, before)
    case.assertEqual(handed, kept)
    spoil(told)
    case.assertEqual(ask(*handed), before)
    case.assertEqual(handed, kept)


def some_rows(counts, most):
    """All rows of rooms, where there are at most so many, else so many of them: the first, the last and drawn ones."""
    rows = 1
    for count in counts:
        rows *= count
    if rows <= most:
        return list(itertools.product(*[range(count) for count in counts]))
    draw = figures(rows)
    found = [tuple(0 for count in counts), tuple(count - 1 for count in counts)]
    while len(found) < most:
        found.append(tuple(next(draw) % count for count in counts))
    return found


def slow_words(start, letters, step):
    """The least word to each thing: whatever word is known gives way to one ahead of it, until none does."""
    found = {start: []}
    changed = True
    while changed:
        changed = False
        for thing, word in list(found.items()):
            for letter in range(letters):
                end = step(thing, letter)
                if end not in found or word_place(word + [letter]) < word_place(found[end]):
                    found[end] = word + [letter]
                    changed = True
    return found


def in_order_of_words(found):
    return sorted(found, key=lambda thing: word_place(found[thing]))
