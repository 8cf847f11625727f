"""Allonge: bills of exchange, and who pays when they come back."""
