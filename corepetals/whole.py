"""The desk: collections kept under names, and lines that ask of them."""

from corepetals.errors import NoAsk
from corepetals.found.exact import count_flowers, greatest_flower, most_apart
from corepetals.found.way import flower_by_way
from corepetals.hit.least import each_two_meet, is_full, least_rows
from corepetals.hit.thinned import least_row, thinned
from corepetals.near.shares import least_numbers, not_spread, share_taken
from corepetals.parted.flowers import fewest_parts
from corepetals.sets.texts import NO_NAMES, is_name, read_sets, row_shown

PUT = "put "

# The least and the greatest of each number that stands behind a word and its name.
BOUNDS = {
    "show": (),
    "flower": ((2, 6),),
    "trace": ((2, 6),),
    "greatest": (),
    "apart": (),
    "count": ((2, 6),),
    "hit": (),
    "thin": ((0, 4),),
    "share": ((0, 99), (1, 99)),
    "spread": ((1, 99),),
    "parts": (),
    "least": (),
    "full": (),
}


def rows_told(sets):
    """A row for each set, no row of None."""
    return [row_shown(one) for one in sets or ()]


def names_told(row):
    """The names in one row, no row of None."""
    return [] if row is None else [" ".join(row)]


def truth_told(truth):
    """The word of a truth."""
    return "yes" if truth else "no"


def show_told(sets, numbers):
    """The collection's rows."""
    return rows_told(sets)


def flower_told(sets, numbers):
    """The rows of the flower that the way finds."""
    flower, trace = flower_by_way(sets, numbers[0])
    return rows_told(flower)


def trace_told(sets, numbers):
    """A row for each step of the way."""
    flower, trace = flower_by_way(sets, numbers[0])
    return [f"{chosen} {name or NO_NAMES} {many}" for chosen, name, many in trace]


def greatest_told(sets, numbers):
    """The rows of the greatest flower."""
    return rows_told(greatest_flower(sets))


def apart_told(sets, numbers):
    """The rows of the most sets apart."""
    return rows_told(most_apart(sets))


def count_told(sets, numbers):
    """How many flowers there are."""
    return [str(count_flowers(sets, numbers[0]))]


def hit_told(sets, numbers):
    """The least row that hits."""
    return names_told(least_row(sets))


def thin_told(sets, numbers):
    """How many flowers went, and the rows of what is left."""
    left, went = thinned(sets, numbers[0])
    return [str(went)] + rows_told(left)


def share_told(sets, numbers):
    """The share that some set has all its names taken."""
    above, below = numbers
    if below < above:
        raise NoAsk("a share is no more than 1")
    above, below = share_taken(sets, least_numbers(above, below))
    return [f"{above}/{below}"]


def spread_told(sets, numbers):
    """The first row that too many sets have."""
    return names_told(not_spread(sets, numbers[0]))


def parts_told(sets, numbers):
    """A row for each of the fewest parts."""
    return [" ; ".join(rows_told(part)) for part in fewest_parts(sets)]


def least_told(sets, numbers):
    """All least rows that hit, written as sets."""
    return rows_told(least_rows(sets))


def full_told(sets, numbers):
    """Whether each two sets meet, and whether the collection is full."""
    return [truth_told(each_two_meet(sets)), truth_told(is_full(sets))]


DEEDS = {
    "show": show_told,
    "flower": flower_told,
    "trace": trace_told,
    "greatest": greatest_told,
    "apart": apart_told,
    "count": count_told,
    "hit": hit_told,
    "thin": thin_told,
    "share": share_told,
    "spread": spread_told,
    "parts": parts_told,
    "least": least_told,
    "full": full_told,
}


def read_number(word, least, most):
    """The number that the word tells in figures; NoAsk where it is none from the least to the most."""
    # Written out they let no nought ahead, no sign and no other script's figures pass.
    if word not in [str(number) for number in range(least, most + 1)]:
        raise NoAsk("no such number may stand there")
    return int(word)


class Desk:
    """Collections under names."""

    def __init__(self):
        self.kept = {}

    def ask(self, line):
        """The rows that answer the line; NoAsk where it asks nothing, NoSets where its text is no collection."""
        if "\n" in line:
            raise NoAsk("a line has no line end")
        if line.startswith(PUT):
            return self.put_text(line)
        word, *others = line.split(" ")
        if word not in DEEDS or len(others) != 1 + len(BOUNDS[word]):
            raise NoAsk("there is no such line")
        if others[0] not in self.kept:
            raise NoAsk("there is no collection of that name")
        numbers = [read_number(told, least, most) for told, (least, most) in zip(others[1:], BOUNDS[word])]
        deed = DEEDS[word]
        return deed(self.kept[others[0]], numbers)

    def put_text(self, line):
        """Keeps the collection of the line's text under the line's name."""
        # The text behind the name's blank is read as it stands, blanks too, so it is not parted in words.
        name, blank, text = line.removeprefix(PUT).partition(" ")
        if not blank or not is_name(name):
            raise NoAsk("there is no name with a text")
        self.kept[name] = read_sets(text.replace(";", "\n"))
        return []
