"""Tiesums: what each tie costs, told by sums along ways."""
