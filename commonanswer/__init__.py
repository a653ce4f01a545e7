"""Commonanswer: one answer for all true numbers."""
