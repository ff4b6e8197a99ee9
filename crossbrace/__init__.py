"""Crossbrace: floors of square fields, held by braces and ropes."""
