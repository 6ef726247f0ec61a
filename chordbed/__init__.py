"""Chordbed: a bed of keys, from wires to letters."""
