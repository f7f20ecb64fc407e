"""The settings: read from a text up to its first fault, and told again as the one text."""

LINE_END = 10
BLANK = 32
DIGITS = "0123456789"
LETTERS = "abcdefghijklmnopqrstuvwxyz"
# Stands for every byte that no right word has, so that it fits nowhere.
STRANGER = "?"

MOST_CHANNELS = 8
MOST_DIGITS = 7
LONGEST_NAME = 8

WRONG_WORD = 1
BEYOND = 2
TOLD_ALREADY = 4
NINTH_CHANNEL = 5
ABOVE = 6

# What is due behind a line's first word: a text is that very word, a number is the most
# that a number there may be, and NAME (which no word that is read can equal) a channel's name.
NAME = "NAME"
FORMS = {
    "channel": ("NAME", "pedestal", 4095, "on", 4095, "off", 4095),
    "keep": (4, 4),
    "buffer": (400, "rate", 50, "high", 400, "low", 400),
    "delay": (8,),
    "gap": (10,),
}
# In these lines the last number may be no more than the one ahead of it.
ORDERED = ("channel", "buffer")
ONCE = ("keep", "buffer", "delay", "gap")
NOT_NAMES = ("channel", "pedestal", "on", "off", "keep", "buffer", "rate", "high", "low", "delay", "gap")
UNTOLD = {
    "keep": (0, 0),
    "buffer": (400, 20, 200, 100),
    "delay": (0,),
    "gap": (0,),
}


class Fault(Exception):
    """A text's first fault: its kind, and how many bytes stand ahead of it."""

    def __init__(self, kind, place):
        self.kind = kind
        self.place = place


class Settings:
    """Channels as tuples (name, pedestal, on, off), and the numbers of the four other lines."""

    def __init__(self, channels, told):
        self.channels = channels
        self.told = told
        keep = told.get("keep", UNTOLD["keep"])
        self.ahead = keep[0]
        self.behind = keep[1]
        buffer = told.get("buffer", UNTOLD["buffer"])
        self.depth = buffer[0]
        self.rate = buffer[1]
        self.high_mark = buffer[2]
        self.low_mark = buffer[3]
        self.delay = told.get("delay", UNTOLD["delay"])[0]
        self.gap = told.get("gap", UNTOLD["gap"])[0]


def read_settings(text):
    """Gives the settings that a text tells; raises Fault at the first thing wrong in it."""
    channels = []
    told = {}
    for words, end in lines_of(text):
        if len(words) > 0:
            check_first_word(words[0], channels, told)
            keyword = words[0][0]
            values = read_values(words, end, [channel[0] for channel in channels])
            if keyword in ONCE:
                told[keyword] = tuple(values)
            else:
                channels.append(tuple(values))
    return Settings(channels, told)


def lines_of(text):
    """Gives each line as (its words, the place of its end), each word as (letters, place)."""
    lines = []
    words = []
    word = ""
    # The last line has no byte 10 behind it; with one, it ends like the others.
    for place, byte in enumerate(text + [LINE_END]):
        if byte != BLANK and byte != LINE_END:
            word += sign_of(byte)
            continue
        if word != "":
            words.append((word, place - len(word)))
            word = ""
        if byte == LINE_END:
            lines.append((words, place))
            words = []
    return lines


def sign_of(byte):
    if ord("0") <= byte <= ord("9"):
        return DIGITS[byte - ord("0")]
    if ord("a") <= byte <= ord("z"):
        return LETTERS[byte - ord("a")]
    return STRANGER


def check_first_word(first, channels, told):
    """Raises what is wrong at a line's first word, which goes ahead of all else in the line."""
    keyword = first[0]
    place = first[1]
    if keyword not in FORMS:
        raise Fault(WRONG_WORD, place)
    if keyword in told:
        raise Fault(TOLD_ALREADY, place)
    if keyword == "channel" and len(channels) == MOST_CHANNELS:
        raise Fault(NINTH_CHANNEL, place)


def read_values(words, end, names):
    """Gives a line's name and numbers in their order; names are those told already."""
    keyword = words[0][0]
    form = FORMS[keyword]
    values = []
    for number, due in enumerate(form, start=1):
        if number == len(words):
            raise Fault(WRONG_WORD, end)
        word = words[number][0]
        place = words[number][1]
        if due == NAME:
            values.append(read_name(word, place, names))
        elif isinstance(due, int):
            values.append(read_number(word, place, due))
        elif word != due:
            raise Fault(WRONG_WORD, place)
    if keyword in ORDERED and values[-1] > values[-2]:
        raise Fault(ABOVE, words[len(form)][1])
    if len(words) > len(form) + 1:
        raise Fault(WRONG_WORD, words[len(form) + 1][1])
    return values


def read_name(word, place, names):
    if len(word) > LONGEST_NAME or word in NOT_NAMES:
        raise Fault(WRONG_WORD, place)
    if not all([sign in LETTERS for sign in word]):
        raise Fault(WRONG_WORD, place)
    if word in names:
        raise Fault(TOLD_ALREADY, place)
    return word


def read_number(word, place, most):
    if len(word) > MOST_DIGITS or not all([sign in DIGITS for sign in word]):
        raise Fault(WRONG_WORD, place)
    if len(word) > 1 and word[0] == "0":
        raise Fault(WRONG_WORD, place)
    if int(word) > most:
        raise Fault(BEYOND, place)
    return int(word)


def one_text(settings):
    """Gives the bytes of the one text that tells these settings."""
    lines = [line_of("channel", channel) for channel in settings.channels]
    for keyword in ONCE:
        if keyword in settings.told:
            lines.append(line_of(keyword, settings.told[keyword]))
    return [ord(sign) for sign in "".join(lines)]


def line_of(keyword, values):
    words = [keyword]
    used = 0
    for due in FORMS[keyword]:
        if due == NAME or isinstance(due, int):
            words.append(str(values[used]))
            used += 1
        else:
            words.append(due)
    return " ".join(words) + "\n"
