"""The faces: strokes, ink and letters."""
