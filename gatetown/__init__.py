"""Gatetown: a whole small computer, from gates to a shell."""
