"""Ropedance: tangles of two ropes, told by one fraction."""
