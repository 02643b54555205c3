package mesh

import (
	"slices"

	"facet/api"
	"facet/polygon"
)

// uncut stands for the third vertex where no triangle is laid yet.
const uncut = -1

// cut is a polygon, and what has been laid of its mesh so far.
//
// Triangles are laid one by one, each to the left of an edge that has none
// there yet: of the polygon's edges first, then of those that the triangles
// bring along. What is not covered yet is always bounded by known edges, so
// each of them has a vertex to its left with which it makes a triangle that
// nothing reaches into. Of these vertices one is taken whose circle with the
// edge has none of the others within it: that makes the mesh DELAUNAY. Where
// several are on that circle any of them will do, as later triangles keep
// clear of the edges of earlier ones.
type cut struct {
	ground
	edges []polygon.Edge       // each one that is known, once
	third map[polygon.Edge]int // which vertex makes a triangle with an edge, to its left
}

// cutAll tells the triangles of a mesh, in their order, by the border of the
// polygon.
func cutAll(g ground, border []polygon.Edge) []api.Triangle {
	c := cut{ground: g, third: map[polygon.Edge]int{}}
	for _, e := range border {
		c.open(e)
	}
	for i := 0; i < len(c.edges); i++ { // laying a triangle makes the list longer
		if e := c.edges[i]; c.third[e] == uncut {
			c.lay(api.Triangle{e[0], e[1], c.best(e)})
		}
	}
	return c.triangles()
}

// open adds an edge that has the polygon's inside to its left.
func (c *cut) open(e polygon.Edge) {
	c.edges = append(c.edges, e)
	c.third[e] = uncut
}

// lay adds a triangle; beyond those of its edges that are new, there is more
// of the inside.
func (c *cut) lay(t api.Triangle) {
	for i, e := range sides(t) {
		if _, known := c.third[e]; !known {
			c.open(e.Turned())
		}
		c.third[e] = t[(i+2)%3]
	}
}

// best tells the vertex that makes the triangle to the left of an edge.
func (c *cut) best(e polygon.Edge) int {
	base, best := edge{c.ground, e}, uncut
	for v := range c.points {
		if base.left(v) && (best == uncut || base.nearer(v, best)) && c.clear(api.Triangle{e[0], e[1], v}) {
			best = v
		}
	}
	return best
}

// clear tells whether nothing that is known reaches into a triangle.
func (c *cut) clear(corners api.Triangle) bool {
	t := triangle{c.ground, corners}
	for v := range c.points {
		if t.holds(v) {
			return false
		}
	}
	return !slices.ContainsFunc(c.edges, t.crossed)
}

// triangles tells all that are laid. Each is found by three edges, and told by
// the one from its least vertex.
func (c *cut) triangles() []api.Triangle {
	var list []api.Triangle
	for e, v := range c.third {
		if e[0] < e[1] && e[0] < v {
			list = append(list, api.Triangle{e[0], e[1], v})
		}
	}
	slices.SortFunc(list, func(t, u api.Triangle) int { return slices.Compare(t[:], u[:]) })
	return list
}
