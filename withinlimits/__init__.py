"""Readers of rows with counts and limits within limits, decided for all rows."""
