"""Foreseehall: sentences of time over small worlds, judged with papers."""
