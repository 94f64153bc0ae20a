"""Allmends: all least mends of a program, for streams of every length."""
