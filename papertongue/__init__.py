"""Papertongue: documents whole, read from text, printed in three ways, led back, and changed by several hands."""
