// Package plane: turns, circles and segments of points, reckoned exactly.
//
// Where coordinates are from -MaxCoord to MaxCoord, differences are at most
// 2^21, and what cross and square make of them at most 2^43: an int holds them.
// The sum that tells a circle can be nearly 2^88, and takes a wide number.
package plane

import (
	"cmp"

	"facet/api"
)

// Turn tells the turn of a, b, c: 1 to the left, 0 on one line, -1 to the right.
func Turn(a, b, c api.Point) int {
	return cmp.Compare(cross(minus(b, a), minus(c, a)), 0)
}

// Circle tells the sign of the circle of a, b, c and d: where a, b, c turn to
// the left, 1 if d is within the circle through them, 0 on it, -1 outside.
func Circle(a, b, c, d api.Point) int {
	p, q, r := minus(a, d), minus(b, d), minus(c, d)
	sum := product(cross(q, r), square(p))
	sum = sum.plus(product(cross(r, p), square(q)))
	sum = sum.plus(product(cross(p, q), square(r)))
	return sum.sign()
}

// Meet tells whether the segments a to b and c to d share a point.
//
// The boxes around the segments decide where all four points are on one line,
// and where a segment is a single point; there the turns say nothing.
func Meet(a, b, c, d api.Point) bool {
	return overlap(a.X, b.X, c.X, d.X) && overlap(a.Y, b.Y, c.Y, d.Y) &&
		!oneSide(a, b, c, d) && !oneSide(c, d, a, b)
}

// overlap tells whether the numbers from a to b and those from c to d, in
// whichever order the ends come, have one in common.
func overlap(a, b, c, d int) bool {
	return max(min(a, b), min(c, d)) <= min(max(a, b), max(c, d))
}

// oneSide tells whether c and d are both off the line through a and b, on the
// same side of it.
func oneSide(a, b, c, d api.Point) bool {
	return Turn(a, b, c)*Turn(a, b, d) > 0
}

func minus(a, b api.Point) api.Point {
	return api.Point{X: a.X - b.X, Y: a.Y - b.Y}
}

func cross(a, b api.Point) int {
	return a.X*b.Y - a.Y*b.X
}

func square(a api.Point) int {
	return a.X*a.X + a.Y*a.Y
}
