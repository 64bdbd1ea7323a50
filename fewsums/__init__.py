"""Fewsums: chains of numbers, each the sum of two earlier ones."""
