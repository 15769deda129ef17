"""The sheet: properties, rules, whole sheets and their comparison."""
