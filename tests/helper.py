"""What several test files use: short ways to write sums, and programs drawn by a fixed way of drawing."""

LETTERS = "abcdef"
THINGS = ("a", "b", "c", "d", "e", "f", 0, 1, 2, 3)
NO_THINGS = ("g", "A", "", "ab", "0", "3", "cell", -1, 4, 5, 10006, True, False, None, ("a",), ["a"], (), [0])
STOP = ("stop",)


def num(worth):
    return ("num", worth)


def name(letter):
    return ("name", letter)


def cell(one):
    return ("cell", one)


def kinds(thing):
    """The thing with each part's kind, so that 1 and True are told apart."""
    if isinstance(thing, (tuple, list)):
        return (type(thing), [kinds(part) for part in thing])
    return (type(thing), thing)


class Draw:
    """Numbers that look drawn by chance, the same ones each time for the same seed."""

    def __init__(self, seed):
        self.seed = seed * 7919 + 1

    def below(self, bound):
        self.seed = (self.seed * 6364136223846793005 + 1442695040888963407) % 2 ** 64
        return (self.seed >> 33) % bound

    def of(self, things):
        return things[self.below(len(things))]


def drawn_sum(draw, depth=2):
    kind = draw.below(10)
    if depth == 0 or kind < 4:
        return draw.of((num(draw.below(6)), num(draw.below(10007)), name(draw.of(LETTERS)), name(draw.of("abc"))))
    if kind == 4:
        return cell(drawn_sum(draw, depth - 1))
    word = draw.of(("add", "add", "sub", "mul", "less"))
    return (word, drawn_sum(draw, depth - 1), drawn_sum(draw, depth - 1))


def drawn_row(draw, words, places):
    """A row with one of these first words, its place, if it has one, out of these."""
    word = draw.of(words)
    if word == "set":
        return ("set", draw.of("abc" + LETTERS), drawn_sum(draw))
    if word == "put":
        return ("put", drawn_sum(draw, 1), drawn_sum(draw))
    if word == "ask":
        return ("ask", draw.of(LETTERS))
    if word == "say":
        return ("say", drawn_sum(draw))
    if word == "unless":
        return ("unless", drawn_sum(draw), draw.of(places))
    if word in ("call", "jump"):
        return (word, draw.of(places))
    return (word,)


PLAIN_WORDS = ("set",) * 5 + ("put",) * 3 + ("ask",) * 2 + ("say",) * 2


def wild_program(draw):
    """Any rows in any order; many of these runs are short, or open calls that never come back."""
    row_count = draw.below(21)
    words = PLAIN_WORDS + ("unless",) * 4 + ("call",) * 3 + ("back",) * 3 + ("jump", "stop")
    return tuple([drawn_row(draw, words, range(row_count + 1)) for _ in range(row_count)])


def tame_program(draw):
    """Parts that end with a back, and call the later parts; the first one jumps to its start, or stops."""
    part_count = 2 + draw.below(3)
    size = 4 + draw.below(2)
    rows = []
    for part in range(part_count):
        first = part * size
        later = [other * size for other in range(part + 1, part_count)]
        for number in range(size - 1):
            if later and draw.below(3) == 0:
                rows.append(("call", draw.of(later)))
            else:
                places = range(first + number + 1, first + size)
                rows.append(drawn_row(draw, PLAIN_WORDS + ("unless",) * 4, places))
        rows.append(("back",) if part > 0 else draw.of((("jump", 0), ("jump", 0), STOP)))
    return tuple(rows)


def busy_program(draw):
    """A loop whose steps read much of what those ahead of them wrote, and that f counts; f may end it or not."""
    row_count = 4 + draw.below(5)
    words = ("set",) * 5 + ("put",) * 4 + ("ask",)
    rows = [drawn_row(draw, words, ()) for _ in range(row_count)]
    busy = [("set", letter, (draw.of(("add", "mul", "sub")), drawn_sum(draw, 1), cell(name(draw.of("abc")))))
            for letter in draw.of(("ab", "bc", "ca"))]
    count = ("set", "f", ("add", name("f"), num(1)))
    bound = ("unless", ("less", name("f"), num(draw.of((1, 2, 3, 3, 4, 60)))), len(rows) + len(busy) + 3)
    return tuple(rows + busy + [count, bound, ("jump", 0)])


DRAWN_WAYS = (wild_program, tame_program, busy_program)


def drawn_runs(many):
    """So many tuples (program, asked, most), the same ones each time."""
    runs = []
    for seed in range(many):
        draw = Draw(seed)
        program = DRAWN_WAYS[seed % len(DRAWN_WAYS)](draw)
        asked = [draw.below(draw.of((4, 10007))) for _ in range(draw.below(6))]
        runs.append((program, asked, draw.of((5, 13, 40, 40, 60))))
    return runs
