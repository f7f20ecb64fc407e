"""Hearing: bytes that come one after another, and the frames that are read out of them."""

from frontends.frames import FRAME_BEGINS, FRAME_ENDS, read_frame


class Hearing:
    """All that was heard, for frames of so many channels.

    begun has the bytes behind the 128 of the begun frame, None if none is begun; read and bad
    are how many frames were so.
    """

    def __init__(self, channels):
        self.channels = channels
        self.begun = None
        self.read = 0
        self.bad = 0

    def hear(self, octets):
        """Hears bytes behind all that was heard; gives the frames that they made read, as (crossing, samples)."""
        frames = []
        for octet in octets:
            if octet == FRAME_BEGINS:
                self.begin_frame()
            elif self.begun is None:
                continue
            elif octet == FRAME_ENDS:
                frames.extend(self.end_frame())
            else:
                self.begun.append(octet)
        return frames

    def begin_frame(self):
        if self.begun is not None:
            self.bad += 1
        self.begun = []

    def end_frame(self):
        """Gives the one frame that was begun if it is right, else none."""
        found = read_frame(self.begun, self.channels)
        self.begun = None
        if found is None:
            self.bad += 1
            return []
        self.read += 1
        return [found]
