"""Onestaff: one line of rails, and what lets a train in."""
