"""Woolyears: sacks of wool promised years ahead."""
