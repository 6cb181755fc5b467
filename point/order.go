package point

import (
	"swarf/api"
	"swarf/radical"
)

// Equal reports whether two points are equal, whatever their radicands are.
func Equal(p, q api.Point) bool {
	return radical.Equal(xOf(p), xOf(q)) && radical.Equal(yOf(p), yOf(q))
}

// Compare compares two points by x, and then by y.
func Compare(p, q api.Point) int {
	if order := radical.Cmp(xOf(p), xOf(q)); order != 0 {
		return order
	}
	return radical.Cmp(yOf(p), yOf(q))
}
