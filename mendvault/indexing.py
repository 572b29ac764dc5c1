"""The index: where the signs of contents stand, and how they are fetched from there."""

from mendvault.blocks import PAYLOAD
from mendvault.codes import weights
from mendvault.errors import Beyond
from mendvault.finding import found
from mendvault.gathering import by_stripes, gathered
from mendvault.records import WITH_CONTENT, edit_text, transaction_text
from mendvault.signs import text_of
from mendvault.states import State
from mendvault.stripes import mixed, stripes_needed


def index_of(transactions, k):
    """For each name of the state behind the transactions the spans of its content."""
    return spans_state(transactions, k).pairs()


def label_index(transactions, k):
    """For each label the index of what it keeps."""
    state = spans_state(transactions, k)
    return tuple([(label, state.kept(label)) for label in state.labels()])


def spans_state(transactions, k):
    """The state behind the transactions, which has spans in place of contents.

    What an edit does to a tuple of spans is what it does to the string of their signs: it is put,
    another one is put behind it, it is handed on. A content never has more spans than signs.
    """
    state = State()
    stripe = 0
    for number, edits in enumerate(transactions):
        text = transaction_text(number, edits)
        at = text.find("\n") + 1
        for edit in edits:
            end = at + len(edit_text(edit))
            if edit[0] in WITH_CONTENT:
                # A line feed stands behind the content.
                word, name, content = edit
                spans = spans_between(end - 1 - len(content), end - 1, stripe, k)
                state = state.edited((word, name, spans))
            else:
                state = state.edited(edit)
            at = end
        stripe = stripe + stripes_needed(len(text), k)
    return state


def spans_between(begin, end, stripe, k):
    """The spans of these places of a text that begins with this stripe."""
    out = []
    at = begin
    while at < end:
        block = at // PAYLOAD
        behind = min(end, (block + 1) * PAYLOAD)
        out.append((stripe + block // k, block % k, at - block * PAYLOAD, behind - block * PAYLOAD))
        at = behind
    return tuple(out)


def fetched(pieces, epoch, k, r, spans):
    """The content that stands in the spans, and the pairs (stripe, volume) of the blocks that were asked."""
    blocks = gathered([found(piece) for piece in pieces])
    stripes = by_stripes([block for block in blocks if (block.epoch, block.k, block.r) == (epoch, k, r)])
    content = ""
    used = set()
    for stripe, volume, begin, end in spans:
        asked = asked_blocks(stripes.get((epoch, stripe), []), k, volume)
        signs = text_of(payload_at(asked, volume)[begin:end])
        if signs is None:
            raise Beyond("parted")
        content = content + signs
        for block in asked:
            used.add((stripe, block.volume))
    return content, tuple(sorted(used))


def asked_blocks(blocks, k, volume):
    """Of a stripe's blocks, in sequence, those that tell the payload of this volume: its own one, or k others."""
    own = [block for block in blocks if block.volume == volume]
    if len(own) > 1:
        raise Beyond("parted")
    if len(own) == 1:
        return own
    if len(blocks) > 1 and blocks[0].volume == blocks[1].volume:
        raise Beyond("parted")
    counting = [block for block in blocks if tail_of(block) == tail_of(blocks[0])]
    if len({block.volume for block in counting}) < len(counting):
        raise Beyond("parted")
    if len(counting) < k:
        raise Beyond("lost")
    return counting[:k]


def tail_of(block):
    """What blocks of one place and layout have alike if they are of one stripe."""
    return block.used, block.last, block.number


def payload_at(blocks, volume):
    """The payload of this volume by these blocks, be it one of them or not."""
    places = [block.volume for block in blocks]
    return mixed(weights(places, volume), [block.payload for block in blocks])
