"""What several tests share."""

from mirrorstair.errors import Fault, TooHigh, TooLong
from mirrorstair.stair import Stair

SEVEN = ("say", "if", "fun", "let", "hold", "heed", "up")
KINDS = ("name",) + SEVEN + ("put", "fixed")
READERS = KINDS + ("give",)
MANY = 200000


def told(stair, line, **more):
    """What a stair tells of a line; of a refusal a text that no answer is."""
    try:
        return stair.tell(line, **more)
    except Fault as fault:
        return "!" + fault.word
    except TooHigh as refusal:
        return f"!high {refusal.level} {refusal.text}"
    except TooLong as refusal:
        return f"!long {refusal.steps}"


def answer(*lines):
    """What a new stair tells of the last of some lines."""
    stair = Stair()
    for line in lines[:-1]:
        stair.tell(line, most=MANY)
    return told(stair, lines[-1], most=MANY)


def traced(stair, line, **more):
    """The trace of a line; of a refusal a text."""
    try:
        return stair.trace(line, **more)
    except (Fault, TooHigh, TooLong) as refusal:
        return f"{type(refusal).__name__} {sorted(vars(refusal).items())}"


def state(stair, levels=6):
    """All that can be asked of a stair."""
    return (
        [stair.held(level) for level in range(levels)],
        [stair.readers(level) for level in range(levels)],
        stair.steps,
        stair.reached,
        stair.height,
    )


def all_state(stair):
    """All that can be asked of a stair, now and taking back line by line."""
    stair = stair.copy()
    states = [state(stair)]
    while True:
        try:
            stair.back()
        except ValueError:
            return states
        states.append(state(stair))


def steps_of(line, *ahead):
    """How many steps a line takes behind some others."""
    stair = Stair()
    for one in ahead:
        stair.tell(one, most=MANY)
    done = stair.steps
    stair.tell(line, most=MANY)
    return stair.steps - done


LOOP = "(hold loop (fun (n) (if (less n 1) 0 (plus 1 (loop (minus n 1))))))"


def line_of_steps(many):
    """A line that takes just as many steps on a stair that was told LOOP: loops, and fillings of two and three."""
    rounds = (many - 60) // 18
    line = f"(loop {rounds})"
    left = many - steps_of(line, LOOP)
    while left > 0:
        if left % 2:
            line = f"((fun () {line}))"
            left -= 3
        else:
            line = f"(let x 1 {line})"
            left -= 2
    return line
