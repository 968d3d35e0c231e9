"""Boxnarrow: answers of rows shut into boxes, with papers."""
