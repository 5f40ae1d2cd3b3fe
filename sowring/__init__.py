"""Sowring: pits in a ring, sown round and round."""
