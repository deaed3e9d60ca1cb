"""Statements that speak against one another, and which of them hold their own."""
