package polygon

import (
	"facet/api"
	"facet/plane"
)

// test is one of the tests that a valid polygon passes.
type test struct {
	name   string
	fault  api.Errno // what is wrong with a polygon that does not pass
	passes func(Polygon) bool
}

// tests tells them in their order. Each may lean on those ahead of it: it is
// asked of polygons alone that have passed them.
func tests() []test {
	return []test{
		{"the number of rings is allowed", api.ErrRings, ringsAllowed},
		{"no ring is short", api.ErrShort, noneShort},
		{"points are few enough and near enough", api.ErrRange, inRange},
		{"no two vertices are the same point", api.ErrTwice, noneTwice},
		{"edges share no point that they may not", api.ErrTouch, noneTouch},
		{"each hole is within the outer ring", api.ErrOutside, noneOutside},
		{"no hole is within another one", api.ErrNested, noneNested},
	}
}

// Check tells the fault of the first test that the polygon does not pass.
func (p Polygon) Check() api.Errno {
	for _, t := range tests() {
		if !t.passes(p) {
			return t.fault
		}
	}
	return api.OK
}

func ringsAllowed(p Polygon) bool {
	return 1 <= len(p) && len(p) <= api.MaxRings
}

func noneShort(p Polygon) bool {
	for _, ring := range p {
		if len(ring) < 3 {
			return false
		}
	}
	return true
}

// inRange counts first: so it ends soon, however long the rings are.
func inRange(p Polygon) bool {
	points := 0
	for _, ring := range p {
		points += len(ring)
	}
	if points > api.MaxPoints {
		return false
	}
	for _, v := range p.Vertices() {
		if !InBounds(v) {
			return false
		}
	}
	return true
}

// InBounds tells whether a point's coordinates are in their bounds.
func InBounds(p api.Point) bool {
	return -api.MaxCoord <= p.X && p.X <= api.MaxCoord &&
		-api.MaxCoord <= p.Y && p.Y <= api.MaxCoord
}

func noneTwice(p Polygon) bool {
	times := map[api.Point]int{}
	for _, v := range p.Vertices() {
		times[v]++
		if times[v] > 1 {
			return false
		}
	}
	return true
}

func noneTouch(p Polygon) bool {
	vertices, edges := p.Vertices(), p.Edges()
	for i, e := range edges {
		for _, f := range edges[:i] {
			if touch(vertices, e, f) {
				return false
			}
		}
	}
	return true
}

// touch tells whether two edges share a point that they may not.
func touch(vertices []api.Point, e, f Edge) bool {
	a, b := vertices[e[0]], vertices[e[1]]
	c, d := vertices[f[0]], vertices[f[1]]
	switch {
	case e[1] == f[0]:
		return foldBack(a, b, d)
	case f[1] == e[0]:
		return foldBack(c, d, b)
	}
	return plane.Meet(a, b, c, d)
}

// foldBack tells whether the edges a to b and b to c, of three different
// points, share more than b: then the nearer end of the two is on both.
func foldBack(a, b, c api.Point) bool {
	return plane.Meet(a, a, b, c) || plane.Meet(c, c, a, b)
}

// noneOutside asks one vertex of each hole: as no edges touch, all of the hole
// is where that vertex is.
func noneOutside(p Polygon) bool {
	for _, hole := range p[1:] {
		if !within(hole[0], p[0]) {
			return false
		}
	}
	return true
}

func noneNested(p Polygon) bool {
	holes := p[1:]
	for i, hole := range holes {
		for j, other := range holes {
			if i != j && within(hole[0], other) {
				return false
			}
		}
	}
	return true
}
