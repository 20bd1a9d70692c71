"""Twinless: whole numbers as rows of marks in which no two neighbours stand."""
