"""Lidprice: boxes with lids, and what to open next."""
