"""What several tests need: words by kinds, small worlds of states (closed under joins), expressions, refusals, programs
that are drawn by a fixed rule."""

from itertools import combinations, product

from surejoin.errors import JoinError

KINDS = ("most", "set", "once", "row", "map")
TOP = 999999999

WAITS = {
    "most": ("least", "many"),
    "set": ("has", "many"),
    "once": ("held", "many"),
    "row": ("item", "many"),
    "map": ("has", "item", "many"),
}
LOOKS = {
    "most": ("size", "held"),
    "set": ("size", "has"),
    "once": ("size", "held"),
    "row": ("size", "item"),
    "map": ("size", "has", "item"),
}


def small_states(word):
    if word in ("most", "once"):
        return [[]] + [[n] for n in (0, 1, 2, 7, TOP)]
    if word == "set":
        return [list(some) for size in range(5) for some in combinations((0, 1, 3, TOP), size)]
    if word == "row":
        return [list(some) for size in range(4) for some in product((0, 1), repeat=size)] + [[TOP], [TOP, 2]]
    return [
        list(zip(keys, numbers))
        for size in range(4)
        for keys in combinations((0, 2, TOP), size)
        for numbers in product((0, TOP), repeat=size)
    ]


def long_state(word, length):
    """A state of so many things, no two of them alike."""
    if word == "map":
        return [(3 * n, n) for n in range(length)]
    if word == "row":
        return [3 * (length - n) for n in range(length)]
    return [3 * n for n in range(length)]


WORKINGS = ("+", "-", "*", "div", "rem", "<", "=")
KEPT = """most set once row map job let put wait get tell if else while end begin stop ask least has many size held item
div rem""".split()


def refusal(call, *handed):
    """The class of what a call is refused with, None where it isn't refused."""
    try:
        call(*handed)
    except JoinError as fault:
        return type(fault)
    return None


def deep_texts(deep):
    """Texts of expressions just so deep: on the left, on the right, on both sides, by looks, and by turns."""
    if deep == 0:
        return ["7", "x", "size b", "held b"]
    left, right, both, looks, turns = "x", "x", "x", "x", "x"
    for level in range(deep):
        left, right, both = f"+ {left} 1", f"- 1 {right}", f"* {both} {both}"
        looks = f"item b {looks}"
        turns = f"has b {turns}" if level % 2 else f"div {turns} size b"
    return [left, right, both, looks, turns]


def plain_parts(thing):
    """The classes of all that is in a thing, itself first; what is equal may still be of another class."""
    told = [type(thing)]
    if isinstance(thing, (list, tuple)):
        for part in thing:
            told.append(plain_parts(part))
    return told


# Places of an expression in a program, which stands behind the lines of four boxes.
EXPRESSION_PLACES = [
    "job main\nlet x {}\nend",
    "job main\nput m {}\nend",
    "job main\nput r 1 {}\nend",
    "job main\nput r 1 2 3 {}\nend",
    "job main\nput p {} 1\nend",
    "job main\nwait m least {}\nend",
    "job main\nget x r {}\nend",
    "job main\ntell {}\nend",
    "job main\nif {}\nend\nend",
    "job main\nif {}\nelse\nend\nend",
    "job main\nif 1\ntell {}\nend\nend",
    "job main\nif 1\nelse\ntell {}\nend\nend",
    "job main\nif 1\nelse\nif {}\nend\nend\nend",
    "job main\nwhile {}\nend\nend",
    "job main\nwhile 1\nstop\ntell {}\nend\nend",
    "job main\nwhile 1\nwhile 1\nif 1\nelse\nwhile {}\nend\nend\nend\nend\nend",
    "job main\nend\njob f\nlet x {}\nend",
    "job f a\nend\njob main\nbegin f {} 1\nend",
    "job f a\nend\njob main\nbegin f 1 {}\nend",
    "job f a b c d\nend\njob main\nbegin f 1 2 3 4 {}\nend",
    "job main\nstop\ntell {}\nend",
    "job main\nend\nask {}",
    "job main\nend\nask 1\nask {}",
]
FOUR_BOXES = "once o\nrow r\nmap p\nmost m\n"


def around(look):
    """A look by itself and within other expressions."""
    told = [look, f"has p {look}", f"item r {look}", f"item r item r {look}", f"+ size r {look}"]
    for word in WORKINGS:
        told += [f"{word} {look} 1", f"{word} 1 {look}"]
    return told + [f"+ 1 + 1 + 1 + 1 {look}", f"+ + + + {look} 1 1 1 1"]


class Draw:
    """Draws by a fixed rule: of one seed always the same."""

    def __init__(self, seed):
        self.now = seed * 7919 + 12345
        for _ in range(3):
            self.below(2)

    def below(self, count):
        self.now = (self.now * 6364136223846793005 + 1442695040888963407) % 2 ** 64
        return (self.now >> 33) % count

    def one_of(self, things):
        return things[self.below(len(things))]


def drawn_expression(draw, deep, names=("x", "y", "a", "b", "i")):
    choice = draw.below(10)
    if deep == 0 or choice < 4:
        return str(draw.below(4))
    if choice < 7:
        return draw.one_of(names)
    word = draw.one_of(("+", "-", "*", "+", "<", "=", "+", "*", "<", "div", "rem"))
    return f"{word} {drawn_expression(draw, deep - 1, names)} {drawn_expression(draw, deep - 1, names)}"


def drawn_put(draw, tame):
    """A put to one of five boxes; tame ones always fit together."""
    box = draw.one_of("msorp")
    E = drawn_expression(draw, 1)
    if box == "o":
        return "put o 5" if tame else f"put o {draw.one_of((5, 5, 5, 6, E))}"
    if box == "r":
        numbers = [3, 1, 3, 2] if tame else [3, draw.one_of((1, 1, 1, E)), 3, 2]
        return "put r " + " ".join(str(n) for n in numbers[:1 + draw.below(4)])
    if box == "p":
        return f"put p {E} 4" if tame else f"put p {E} {draw.one_of((4, 4, E))}"
    return f"put {box} {E}"


def drawn_wait(draw):
    E = drawn_expression(draw, 1)
    return draw.one_of((
        f"wait m least {E}", f"wait s has {E}", f"wait p has {E}", f"wait {draw.one_of('msorp')} many {E}",
        "get x o", f"get y r {E}", f"get x p {E}",
    ))


def drawn_begin(draw):
    steps = draw.one_of(("0", "3", "10", "30", "30", "60", "400", drawn_expression(draw, 1)))
    called = draw.one_of("fgh")
    handed = [drawn_expression(draw, 1) for _ in range("hfg".index(called))]
    return " ".join(["begin", called, steps] + handed)


def drawn_body(draw, tame, room, name):
    lines = []
    for _ in range(2 + draw.below(5)):
        choice = draw.below(24)
        E = drawn_expression(draw, 2)
        if choice < 3:
            lines.append(f"let {draw.one_of('xyi')} {E}")
        elif choice < 11:
            lines.append(drawn_put(draw, tame))
        elif choice < 14:
            lines.append(drawn_wait(draw))
        elif choice < 17:
            lines.append(f"tell {E}")
        elif choice < 19:
            lines.append(drawn_begin(draw))
        elif choice < 21 and room:
            lines += [f"if {E}"] + drawn_body(draw, tame, room - 1, name)
            if draw.below(2):
                lines += ["else"] + drawn_body(draw, tame, room - 1, name)
            lines.append("end")
        elif choice < 23 and room:
            lines += [f"while < {name} {draw.below(4)}"] + drawn_body(draw, tame, room - 1, chr(ord(name) + 1))
            lines += [f"let {name} + {name} 1", "end"]
        elif choice == 23 and draw.below(3) == 0:
            lines.append("stop")
    return lines


def drawn_text(seed, tame=True):
    """The text of a program that is let: five boxes, four jobs, an ask of each look."""
    draw = Draw(seed)
    lines = ["most m", "set s", "once o", "row r", "map p"]
    for head in draw.one_of((("main", "f a", "g a b", "h"), ("h", "g b a", "main", "f x"))):
        begins = [drawn_begin(draw) for _ in range(1 + draw.below(4))] if head == "main" else []
        lines += [f"job {head}"] + begins + drawn_body(draw, tame, 2, "i") + ["end"]
    asks = ["ask size m", "ask held o", "ask has s 1", "ask item p 1", "ask div item r 0 held o"]
    # One that is too long gives way to another one.
    return "\n".join(lines + asks) if len(lines + asks) <= 150 else drawn_text(seed + 100000, tame)
