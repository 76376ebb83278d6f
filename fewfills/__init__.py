"""Fewfills: rows of sums with few unknowns each, and what fills up when they are struck out."""
