"""Stepsound: sound in few bits, and hearers that come together again."""
