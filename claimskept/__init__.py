"""Claims kept as rows come and go: see claimskept.claims.answers."""
