"""Front ends: crossings measured, packed into frames, and sent through a buffer to the wire."""
