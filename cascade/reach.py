"""What letters lead to from a start, each thing with its least word."""

from cascade.errors import TooMany


def refuse_more(things, most):
    if most is not None and len(things) > most:
        raise TooMany(most)


# Going through the words wave by wave, and in each wave through the words in their order with the lesser
# letter behind them first, each thing is found by its least word, and the dict keeps the order of these words.
def reached(start, letters, step, most=None):
    words = {start: []}
    refuse_more(words, most)
    wave = [start]
    while wave:
        following = []
        for thing in wave:
            for letter in range(letters):
                found = step(thing, letter)
                if found not in words:
                    words[found] = words[thing] + [letter]
                    refuse_more(words, most)
                    following.append(found)
        wave = following
    return words
