"""Lays calls into the one list that the program takes, and parts the answers it gives back."""

from frontends.crossings import answers

NUMBERS = {
    "settings": 0, "check": 1, "print": 2, "cross": 3, "times": 4, "wire": 5,
    "kept": 6, "high": 7, "counts": 8, "frame": 9, "margin": 10, "worst": 11, "play": 12,
    "pack": 13, "feed": 14, "heard": 15, "crc": 16, "hush": 17, "live": 18, "dead": 19, "state": 20,
}


def octets(text):
    return list(text.encode("latin-1")) if isinstance(text, str) else list(text)


def laid(calls):
    """Each call is a tuple: its name, its whole numbers, its row (a list or a text) if it has one."""
    flat = []
    for call in calls:
        flat.append(NUMBERS[call[0]])
        for part in call[1:]:
            if isinstance(part, int):
                flat.append(part)
            else:
                flat += [len(part)] + octets(part)
    return flat


def parted(flat):
    found = []
    place = 0
    while place < len(flat):
        found.append(flat[place + 1:place + 1 + flat[place]])
        place += 1 + flat[place]
    if place != len(flat):
        raise AssertionError("the last answer is cut short")
    return found


def ask(*calls):
    return parted(answers(laid(calls)))


def last(*calls):
    return ask(*calls)[-1]


def in_lists(calls, before, most=100):
    """The answers to many calls, so many to a list; calls of before stand at each list's beginning."""
    found = []
    for start in range(0, len(calls), most):
        found += ask(*before, *calls[start:start + most])[len(before):]
    return found


def channels_text(count, rest=""):
    """So many channels that are high from 1 on, then other lines."""
    lines = [f"channel {'abcdefghij'[n]} pedestal 0 on 1 off 1\n" for n in range(count)]
    return "".join(lines) + rest
