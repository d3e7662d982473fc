"""Touchrings: dancers in rings that touch, and one row of labels that decides for all calls."""
