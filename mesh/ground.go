package mesh

import (
	"slices"

	"facet/api"
	"facet/plane"
	"facet/polygon"
)

// ground is what the edges and the triangles of one polygon have in common
// with each other: the points that their numbers stand for.
type ground struct {
	points []api.Point
}

// side tells on which side of an edge a point is: 1 to the left, 0 on its line,
// -1 to the right.
func (g ground) side(e polygon.Edge, p api.Point) int {
	return plane.Turn(g.points[e[0]], g.points[e[1]], p)
}

func (g ground) circle(a, b, c, d int) int {
	return plane.Circle(g.points[a], g.points[b], g.points[c], g.points[d])
}

// cross tells whether two edges share a point without sharing an end. Those
// that share an end are left to holds: they have more in common only where a
// vertex is on an edge.
func (g ground) cross(e, f polygon.Edge) bool {
	if e[0] == f[0] || e[0] == f[1] || e[1] == f[0] || e[1] == f[1] {
		return false
	}
	return plane.Meet(g.points[e[0]], g.points[e[1]], g.points[f[0]], g.points[f[1]])
}

// edge is an edge on its ground.
type edge struct {
	ground
	ends polygon.Edge
}

// left tells whether a vertex is to the left of the edge.
func (e edge) left(v int) bool {
	return e.side(e.ends, e.points[v]) > 0
}

// nearer tells whether v is within the circle through the edge's ends and
// other, where both are to the left of the edge.
func (e edge) nearer(v, other int) bool {
	return e.circle(e.ends[0], e.ends[1], other, v) > 0
}

// triangle is a triangle on its ground.
type triangle struct {
	ground
	corners api.Triangle
}

// covers tells whether a point is in the triangle, or on an edge or a corner
// of it.
func (t triangle) covers(p api.Point) bool {
	for _, e := range sides(t.corners) {
		if t.side(e, p) < 0 {
			return false
		}
	}
	return true
}

// holds tells whether the triangle covers a vertex that is none of its corners.
func (t triangle) holds(v int) bool {
	return !slices.Contains(t.corners[:], v) && t.covers(t.points[v])
}

// crossed tells whether an edge crosses one of the triangle's.
func (t triangle) crossed(e polygon.Edge) bool {
	for _, side := range sides(t.corners) {
		if t.cross(side, e) {
			return true
		}
	}
	return false
}

// sides tells a triangle's edges, in its order.
func sides(t api.Triangle) [3]polygon.Edge {
	return [3]polygon.Edge{{t[0], t[1]}, {t[1], t[2]}, {t[2], t[0]}}
}
