"""Answersby: which methods answer an operation."""
