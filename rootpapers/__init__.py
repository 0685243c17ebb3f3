"""Numbers shown to be primes, or not, by short papers."""
