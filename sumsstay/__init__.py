"""Tables whose sums stay."""
