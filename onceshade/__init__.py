"""Bodies in space, painted on a board of dots, each dot once."""
