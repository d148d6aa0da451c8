"""Sumtalk: a weak one asks a strong one for sums, and every liar's share is told."""
