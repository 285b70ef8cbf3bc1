"""Eachsome: sentences of "each" and "some", who wins them, and papers that tell it."""
