// Package polygon: what a polygon is made of, whether it is valid, and its area.
package polygon

import (
	"iter"
	"slices"

	"facet/api"
	"facet/plane"
)

// Polygon is a list of rings: the outer one, then the holes.
type Polygon [][]api.Point

// Edge is an edge by its two vertices: where it begins, where it ends.
type Edge [2]int

// Turned tells the same edge the other way round.
func (e Edge) Turned() Edge {
	return Edge{e[1], e[0]}
}

// Vertices tells the points of all rings, ring by ring, in new memory.
func (p Polygon) Vertices() []api.Point {
	return slices.Concat(p...)
}

// Edges tells the edges of all rings, ring by ring.
func (p Polygon) Edges() []Edge {
	var edges []Edge
	first := 0
	for _, ring := range p {
		for i := range ring {
			next := (i + 1) % len(ring)
			edges = append(edges, Edge{first + i, first + next})
		}
		first += len(ring)
	}
	return edges
}

// Border tells the edges of all rings of a valid polygon, ring by ring, each so
// turned that the inside is to its left.
func (p Polygon) Border() []Edge {
	edges := p.Edges()
	rest := edges
	for i, ring := range p {
		outer := i == 0
		if outer != (leftArea(ring) > 0) {
			turnAll(rest[:len(ring)])
		}
		rest = rest[len(ring):]
	}
	return edges
}

func turnAll(edges []Edge) {
	for i, e := range edges {
		edges[i] = e.Turned()
	}
}

// Area tells twice the area of the inside of a valid polygon.
func (p Polygon) Area() int {
	area := ringArea(p[0])
	for _, hole := range p[1:] {
		area -= ringArea(hole)
	}
	return area
}

// ringArea tells twice the area within a ring, whichever way round it goes.
func ringArea(ring []api.Point) int {
	area := leftArea(ring)
	return max(area, -area)
}

// leftArea tells twice the area to the left of a ring's edges and within it:
// less than 0 if what is within is to their right.
func leftArea(ring []api.Point) int {
	sum := 0
	for a, b := range sides(ring) {
		sum += a.X*b.Y - a.Y*b.X
	}
	return sum
}

// within tells whether a point is within a ring.
func within(p api.Point, ring []api.Point) bool {
	odd := false
	for a, b := range sides(ring) {
		if plane.Meet(p, p, a, b) {
			return false
		}
		if crossed(p, a, b) {
			odd = !odd
		}
	}
	return odd
}

// crossed tells whether the ray from p to the right crosses the edge from a to
// b, on which p is not. The ray is taken to run a hair above p's height, below
// all vertices that are higher: so it goes through none.
func crossed(p, a, b api.Point) bool {
	switch {
	case a.Y <= p.Y && p.Y < b.Y:
		return plane.Turn(a, b, p) > 0
	case b.Y <= p.Y && p.Y < a.Y:
		return plane.Turn(b, a, p) > 0
	}
	return false
}

// sides goes through a ring's edges by their points.
func sides(ring []api.Point) iter.Seq2[api.Point, api.Point] {
	return func(yield func(a, b api.Point) bool) {
		for i, a := range ring {
			if !yield(a, ring[(i+1)%len(ring)]) {
				return
			}
		}
	}
}
