package facet_test

// Whether a list of triangles is a mesh: each thing that the document asks of
// one, looked at by itself, straight from its words.

import (
	"fmt"
	"slices"

	"facet/api"
)

// cutting is a polygon with what is said to be its mesh.
type cutting struct {
	list      rings
	points    []api.Point
	triangles []api.Triangle
}

// meshFault tells what is wrong with a valid polygon's mesh: "" if nothing is.
func meshFault(list rings, triangles []api.Triangle) string {
	c := cutting{list, slices.Concat(list...), triangles}
	for _, look := range []func() string{c.order, c.apart, c.inside, c.area, c.corners, c.delaunay} {
		if fault := look(); fault != "" {
			return fault
		}
	}
	return ""
}

func (c cutting) at(t api.Triangle) (p, q, r api.Point) {
	return c.points[t[0]], c.points[t[1]], c.points[t[2]]
}

// order: each one's vertices turn to the left, the least number is first; the
// list rises.
func (c cutting) order() string {
	for i, t := range c.triangles {
		if slices.Min(t[:]) != t[0] || t[0] < 0 || slices.Max(t[:]) >= len(c.points) {
			return fmt.Sprintf("the numbers of %v", t)
		}
		if p, q, r := c.at(t); twiceArea(p, q, r) <= 0 {
			return fmt.Sprintf("the turn of %v", t)
		}
		if i > 0 && slices.Compare(c.triangles[i-1][:], t[:]) >= 0 {
			return fmt.Sprintf("%v behind %v", t, c.triangles[i-1])
		}
	}
	return ""
}

// twiceArea tells twice the area of a triangle that turns to the left.
func twiceArea(p, q, r api.Point) int {
	return (q.X-p.X)*(r.Y-p.Y) - (q.Y-p.Y)*(r.X-p.X)
}

// inTriangle tells whether p is in the triangle, on its edges and corners too.
func inTriangle(p, a, b, c api.Point) bool {
	return twiceArea(a, b, p) >= 0 && twiceArea(b, c, p) >= 0 && twiceArea(c, a, p) >= 0
}

// apart: no two triangles share a point but corners and whole edges. Where one
// has the other on the far side of an edge, what they share is on a line, and
// ends at corners: so these need to be corners of both.
func (c cutting) apart() string {
	for i, t := range c.triangles {
		for j, u := range c.triangles {
			if i == j {
				continue
			}
			if !c.beyond(t, u) && !c.beyond(u, t) {
				return fmt.Sprintf("%v and %v lie on each other", t, u)
			}
			for _, v := range u {
				p, q, r := c.at(t)
				if inTriangle(c.points[v], p, q, r) && !slices.Contains(t[:], v) {
					return fmt.Sprintf("the corner %d of %v is on %v", v, u, t)
				}
			}
		}
	}
	return ""
}

// beyond tells whether all of u is on the far side of an edge of t, or on it.
func (c cutting) beyond(t, u api.Triangle) bool {
	for i := range 3 {
		from, to, all := c.points[t[i]], c.points[t[(i+1)%3]], true
		for _, v := range u {
			all = all && twiceArea(from, to, c.points[v]) <= 0
		}
		if all {
			return true
		}
	}
	return false
}

// inside: each triangle is in the polygon: its middle is, and no edge of the
// polygon goes through it. (All is made three times as large, so that the
// middles have whole coordinates.)
func (c cutting) inside() string {
	var large rings
	for _, r := range c.list {
		var scaled []api.Point
		for _, p := range r {
			scaled = append(scaled, at(3*p.X, 3*p.Y))
		}
		large = append(large, scaled)
	}
	for _, t := range c.triangles {
		p, q, r := c.at(t)
		if !insidePolygon(at(p.X+q.X+r.X, p.Y+q.Y+r.Y), large) {
			return fmt.Sprintf("%v is outside", t)
		}
		for _, ring := range c.list {
			for i, a := range ring {
				if goesThrough(a, ring[(i+1)%len(ring)], p, q, r) {
					return fmt.Sprintf("an edge from %v goes through %v", a, t)
				}
			}
		}
	}
	return ""
}

// insidePolygon tells whether p is within the outer ring, and not within or on
// a hole.
func insidePolygon(p api.Point, list rings) bool {
	for i, r := range list {
		if onRing(p, r) || turnsAround(p, r) != (i == 0) {
			return false
		}
	}
	return true
}

// turnsAround tells whether a ring winds around p, which is not on it: it sums
// up the quarters of the plane around p that the ring goes through.
func turnsAround(p api.Point, r []api.Point) bool {
	sum := 0
	for i, a := range r {
		b := r[(i+1)%len(r)]
		step := (quarter(p, b) - quarter(p, a) + 4) % 4
		switch {
		case step == 3:
			sum--
		case step == 2 && twiceArea(p, a, b) < 0:
			sum -= 2
		default:
			sum += step
		}
	}
	return sum != 0
}

func quarter(p, a api.Point) int {
	switch x, y := a.X-p.X, a.Y-p.Y; {
	case x > 0 && y >= 0:
		return 0
	case x <= 0 && y > 0:
		return 1
	case x < 0:
		return 2
	}
	return 3
}

// goesThrough tells whether the segment from a to b has a point in the triangle
// that is on none of its edges: no line parts the two.
func goesThrough(a, b, p, q, r api.Point) bool {
	u, v, w := twiceArea(a, b, p), twiceArea(a, b, q), twiceArea(a, b, r)
	if min(u, v, w) >= 0 || max(u, v, w) <= 0 {
		return false
	}
	return (twiceArea(p, q, a) > 0 || twiceArea(p, q, b) > 0) &&
		(twiceArea(q, r, a) > 0 || twiceArea(q, r, b) > 0) &&
		(twiceArea(r, p, a) > 0 || twiceArea(r, p, b) > 0)
}

// area: as they are apart and inside, they cover all of the inside just if
// their areas together are its area.
func (c cutting) area() string {
	sum := 0
	for _, t := range c.triangles {
		sum += twiceArea(c.at(t))
	}
	if want := stripArea(c.list); sum != want {
		return fmt.Sprintf("twice the areas together are %d, not %d", sum, want)
	}
	return ""
}

// stripArea tells twice the area of a polygon's inside, by the strips below the
// edges of each ring.
func stripArea(list rings) int {
	area := 0
	for i, r := range list {
		twice := 0
		for j, a := range r {
			b := r[(j+1)%len(r)]
			twice += (b.X - a.X) * (a.Y + b.Y)
		}
		if twice < 0 {
			twice = -twice
		}
		if i > 0 {
			twice = -twice
		}
		area += twice
	}
	return area
}

// corners: each vertex is a corner of a triangle, each edge of the polygon an
// edge of one.
func (c cutting) corners() string {
	first := 0
	for _, r := range c.list {
		for i := range r {
			a, b := first+i, first+(i+1)%len(r)
			if n := c.having(a, b); n != 1 {
				return fmt.Sprintf("the polygon's edge %d %d is an edge of %d triangles", a, b, n)
			}
			if !slices.ContainsFunc(c.triangles, func(t api.Triangle) bool { return slices.Contains(t[:], a) }) {
				return fmt.Sprintf("the vertex %d is no corner", a)
			}
		}
		first += len(r)
	}
	return ""
}

// having counts the triangles that have an edge between a and b.
func (c cutting) having(a, b int) int {
	n := 0
	for _, t := range c.triangles {
		if slices.Contains(t[:], a) && slices.Contains(t[:], b) {
			n++
		}
	}
	return n
}

// delaunay: where two triangles share an edge, the fourth vertex is not within
// the circle of the other one. (No two share an edge of the polygon.)
func (c cutting) delaunay() string {
	for _, t := range c.triangles {
		for _, u := range c.triangles {
			var others []int
			for _, v := range u {
				if !slices.Contains(t[:], v) {
					others = append(others, v)
				}
			}
			if len(others) != 1 {
				continue
			}
			if p, q, r := c.at(t); slowCircle(p, q, r, c.points[others[0]]) > 0 {
				return fmt.Sprintf("%d of %v is within the circle of %v", others[0], u, t)
			}
		}
	}
	return ""
}
