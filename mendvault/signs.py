"""Signs as symbols: their ASCII numbers."""

LINE_FEED = 10

# The number of the printable sign that no text has.
NO_SIGN = 37

# The printable signs, in the sequence of their numbers, from the blank on. A line feed
# fills the place of the one that no text has, so that those behind it keep theirs.
PRINTABLE = (
    " !\"#$\n&'()*+,-./0123456789:;<=>?"
    "@ABCDEFGHIJKLMNOPQRSTUVWXYZ[\\]^_"
    "`abcdefghijklmnopqrstuvwxyz{|}~"
)

BLANK = 32
TILDE = 126


def symbols_of(text):
    """The numbers of the text's signs."""
    return [ord(sign) for sign in text]


def is_sign(symbol):
    """Whether a sign has this number."""
    return symbol == LINE_FEED or (BLANK <= symbol <= TILDE and symbol != NO_SIGN)


def text_of(symbols):
    """The text whose signs have these numbers, or None if one of them is no sign's."""
    if not all([is_sign(symbol) for symbol in symbols]):
        return None
    return "".join(["\n" if symbol == LINE_FEED else PRINTABLE[symbol - BLANK] for symbol in symbols])
