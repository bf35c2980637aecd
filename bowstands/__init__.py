"""Bowstands: a room for one, hands that raise flags, who stands and who bows."""
