package decimal

import (
	"swarf/api"
	"swarf/integer"
	"swarf/rational"
	"swarf/root"
)

// Nearest returns the integer nearest to a value; the greater one of two.
func Nearest(r api.Root) api.Int {
	// A rational number has a common radicand with every root, so there is no error.
	shifted, _ := root.Add(r, root.FromRat(rational.Frac(1, 2)))
	return root.Floor(shifted)
}

// Down returns the greatest integer that is not greater than a value.
func Down(r api.Root) api.Int { return root.Floor(r) }

// Up returns the least integer that is not less than a value.
func Up(r api.Root) api.Int { return integer.Neg(root.Floor(root.Neg(r))) }

// Snap returns the position of the grid that is nearest to a point.
func Snap(p api.Point) (api.Grid2, api.Errno) {
	x, xOK := machineLength(Nearest(coordinate(p.AX, p.BX, p.C)))
	y, yOK := machineLength(Nearest(coordinate(p.AY, p.BY, p.C)))
	if !xOK || !yOK {
		return api.Grid2{}, api.ErrRange
	}
	return api.Grid2{X: x, Y: y}, api.OK
}

// coordinate returns a + b sqrt(c) in reduced form, for a radicand of a point: if b is 0, c can be that of the other coordinate.
func coordinate(a, b, c api.Rat) api.Root {
	if rational.Sign(b) == 0 {
		return root.FromRat(a)
	}
	return api.Root{A: a, B: b, C: c}
}
