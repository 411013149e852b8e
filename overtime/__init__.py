"""Tables over time: tables whose rows each hold for a set of moments."""
