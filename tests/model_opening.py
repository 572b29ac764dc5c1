"""A plain model of opening, straight from the document, to hold the program against."""

import functools
import re

from tests.helper import SIGNS, slow_sum_row, slow_through
from tests.model import ModelState, Refused, known_name, model_text

EDIT = re.compile(r"(?:(put|append) (\S+) (\d{1,3})|(drop|snapshot|forget|restore) (\S+)|(rename|copy) (\S+) (\S+)|(wipe))\n")


class ModelBlock:
    """The values of a row that is a block's."""

    def __init__(self, row):
        self.row = row
        self.volume, self.k, self.r = row[1:4]
        self.epoch, self.stripe, self.used = (128 * row[at] + row[at + 1] for at in (4, 6, 8))
        self.last, self.number = row[10], 128 * row[11] + row[12]
        self.payload = row[13:44]
        self.head = self.k, self.r, self.used, self.last, self.number

    def good(self):
        return (1 <= self.k <= 6 and self.r <= 4 and self.volume < self.k + self.r
                and 1 <= self.used <= 31 * self.k and self.last <= 1)


@functools.lru_cache(maxsize=None)
def model_block(row):
    """The block whose row this is, or None."""
    if len(row) != 48 or row[0] != 128 or max(row[1:]) > 127 or slow_sum_row(row[1:44]) != row[44:]:
        return None
    block = ModelBlock(row)
    return block if block.good() else None


def model_found(piece):
    """The places of the blocks in the piece, with these."""
    piece, at, out = tuple(piece), 0, []
    while at < len(piece):
        block = model_block(piece[at:at + 48])
        if block:
            out.append((at, block))
        at += 48 if block else 1
    return out


def model_gaps(piece):
    """The runs of integers that are in no block."""
    covered = {at for place, _ in model_found(piece) for at in range(place, place + 48)}
    free = [at not in covered for at in range(len(piece))]
    begins = [at for at in range(len(piece)) if free[at] and not (at and free[at - 1])]
    ends = [at + 1 for at in range(len(piece)) if free[at] and not free[at + 1:at + 2] == [True]]
    return tuple(zip(begins, ends))


@functools.lru_cache(maxsize=None)
def model_signs(rows):
    """Of the rows of a stripe the signs, or the word that tells why there are none."""
    blocks = [model_block(row) for row in rows]
    k, r, used = blocks[0].head[:3]
    if len({block.volume for block in blocks}) < len(blocks) or len({block.head for block in blocks}) > 1:
        return "parted", None
    if len(blocks) < k:
        return "lost", None
    payloads = [()] * (k + r)
    for at in range(31):
        word = slow_through([(block.volume, block.payload[at]) for block in blocks[:k]], k + r)
        payloads = [payload + (symbol,) for payload, symbol in zip(payloads, word)]
    symbols = sum(payloads[:k], ())
    text = "".join(chr(symbol) for symbol in symbols[:used])
    if any(payloads[block.volume] != block.payload for block in blocks) or set(text) - set(SIGNS) or any(symbols[used:]):
        return "parted", None
    return "whole", text


def model_read(text, number):
    """The edits of the transaction that has this number and this text, or None."""
    head = re.match(r"tx \d+ \d+\n", text)
    at, edits = head.end() if head else 0, []
    while match := EDIT.match(text, at):
        word, *rest = [part for part in match.groups() if part is not None]
        at = match.end()
        if word in ("put", "append"):
            size = int(rest.pop())
            rest.append(text[at:at + size])
            at += size + 1
        names = rest[:1] if word in ("put", "append") else rest
        if not all(known_name(name) for name in names) or any(len(each) > 400 for each in rest):
            return None
        edits.append((word, *rest))
    return tuple(edits) if model_text(number, edits) == text else None


def model_epoch(stripes, epoch):
    """The edits that are read of an epoch, the state, how many stripes."""
    transactions, state, begin = [], ModelState(), 0
    while True:
        text, at, blocks, last = "", begin, [], 0
        while not last:
            rows = stripes.get((epoch, at))
            told, signs = model_signs(rows) if rows else ("lost", None)
            if told != "whole":
                return transactions, state, begin
            blocks.append(model_block(rows[0]))
            text, at, last = text + signs, at + 1, blocks[-1].last
        layout = model_block(stripes[epoch, 0][0]).head[:2]
        if any(block.head[:2] != layout or block.number != len(transactions) for block in blocks):
            return transactions, state, begin
        edits = model_read(text, len(transactions))
        try:
            for edit in edits if edits is not None else [("drop", "")]:
                state = state.edited(edit)
        except Refused:
            return transactions, model_behind(transactions), begin
        transactions.append(edits)
        begin = at


def model_behind(transactions):
    """The state behind some transactions."""
    state = ModelState()
    for edits in transactions:
        for edit in edits:
            state = state.edited(edit)
    return state


def model_opened(pieces):
    """All that an object that is found tells, by its attributes' names; of the state the contents, and what is kept."""
    blocks = {block.row: block for piece in pieces for _, block in model_found(piece)}
    stripes = {}
    for row, block in sorted(blocks.items()):
        stripes[block.epoch, block.stripe] = stripes.get((block.epoch, block.stripe), ()) + (row,)
    read = {epoch: model_epoch(stripes, epoch) for epoch, _ in stripes}
    epoch = max([epoch for epoch in read if read[epoch][0]], default=None)
    transactions, state, many = read.get(epoch, ([], ModelState(), 0))
    k, r = model_block(stripes[epoch, 0][0]).head[:2] if transactions else (0, 0)
    mine = {(epoch, stripe) for stripe in range(many)}
    there = {(block.stripe, block.volume) for block in blocks.values() if block.epoch == epoch}
    return {
        "epoch": epoch,
        "layout": (k, r) if transactions else None,
        "count": len(transactions),
        "transactions": tuple(transactions),
        "state": (state.contents, state.kept),
        "stripes": many,
        "missing": tuple(pair for pair in ((stripe, volume) for stripe in range(many) for volume in range(k + r))
                         if pair not in there),
        "beyond": tuple((*place, len(rows)) for place, rows in sorted(stripes.items()) if place not in mine),
        "parted": tuple(place for place, rows in sorted(stripes.items()) if model_signs(rows)[0] == "parted"),
        "gaps": tuple(model_gaps(piece) for piece in pieces),
    }


def told_by(found):
    """What a found object tells, as the model tells it."""
    names = ("epoch", "layout", "count", "transactions", "stripes", "missing", "beyond", "parted", "gaps")
    told = {name: getattr(found, name) for name in names}
    kept = {label: dict(found.state.kept(label)) for label in found.state.labels()}
    return {**told, "state": (dict(found.state.pairs()), kept)}
