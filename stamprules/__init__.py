"""Rule books for concurrency control by stamps."""
