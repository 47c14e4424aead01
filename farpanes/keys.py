"""Keys that go over a road: each one comes once, in turn."""

from farpanes.errors import BadPacket
from farpanes.kinds import are_signs, is_tuple_of, is_whole, is_within

LINE_END = "\n"
MOST_KEYS_SENT = 10


def are_keys(value):
    """Tell whether the value is a text of signs and line ends, or the empty one."""
    return isinstance(value, str) and are_signs(value.replace(LINE_END, ""))


def need_keys_packet(packet):
    """Raise BadPacket of whatever is no packet with keys."""
    if not is_tuple_of(packet, 2):
        raise BadPacket("a packet with keys is a pair")
    start, keys = packet
    if not is_whole(start) or start < 0:
        raise BadPacket("how many keys are there is a whole number from 0 on")
    if not are_keys(keys) or not 1 <= len(keys) <= MOST_KEYS_SENT:
        raise BadPacket("a packet has 1 to 10 keys")


class Typer:
    """The end at which keys are pressed."""

    def __init__(self):
        self.typed = ""
        self.known = 0

    def press(self, keys):
        """Add keys to those that were pressed."""
        if not are_keys(keys):
            raise BadPacket("keys are signs and line ends")
        self.typed += keys

    def tick(self):
        """The packet to be sent, None if all keys are known to be there."""
        if self.known == len(self.typed):
            return None
        return self.known, self.typed[self.known:self.known + MOST_KEYS_SENT]

    def heard(self, many):
        """Take how many keys are there, as far as it is news."""
        if not is_within(many, 0, len(self.typed)):
            raise BadPacket("not so many keys were pressed")
        self.known = max(self.known, many)

    def pressed(self):
        """How many keys were pressed."""
        return len(self.typed)


class Board:
    """The end to which keys come."""

    def __init__(self):
        self.total = 0

    def took(self, packet):
        """Take a packet: told are the keys in it that are new, and how many came in all."""
        need_keys_packet(packet)
        start, keys = packet
        new = keys[self.total - start:] if start <= self.total else ""
        self.total += len(new)
        return new, self.total
