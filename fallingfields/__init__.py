"""Fields laid at multiples of their alignments, and one order that is least for all records."""
