// Package mesh: a valid polygon, cut into the triangles of a mesh, and what can
// be asked of them.
package mesh

import (
	"slices"

	"facet/api"
	"facet/polygon"
)

// none stands for the number of a triangle where there is none.
const none = -1

// Mesh is a polygon's triangles, on their ground.
type Mesh struct {
	ground
	triangles []api.Triangle
	left      map[polygon.Edge]int // the number of the triangle to the left of an edge
}

// New cuts a valid polygon into triangles.
func New(p polygon.Polygon) Mesh {
	g := ground{p.Vertices()}
	m := Mesh{g, cutAll(g, p.Border()), map[polygon.Edge]int{}}
	for n, t := range m.triangles {
		for _, e := range sides(t) {
			m.left[e] = n
		}
	}
	return m
}

// Triangles tells them all, in new memory.
func (m Mesh) Triangles() []api.Triangle {
	return slices.Clone(m.triangles)
}

// Beside tells which triangles share the edges of one.
func (m Mesh) Beside(number int) (api.Triangle, api.Errno) {
	if number < 0 || number >= len(m.triangles) {
		return api.Triangle{}, api.ErrTriangle
	}
	var beside api.Triangle
	for i, e := range sides(m.triangles[number]) {
		beside[i] = m.right(e)
	}
	return beside, api.OK
}

// right tells the number of the triangle to the right of an edge.
func (m Mesh) right(e polygon.Edge) int {
	if n, there := m.left[e.Turned()]; there {
		return n
	}
	return none
}

// Locate tells the first triangle that a point is in. Of a point out of the
// bounds no turn is asked: the numbers could run over.
func (m Mesh) Locate(p api.Point) int {
	if !polygon.InBounds(p) {
		return none
	}
	for n, t := range m.triangles {
		if (triangle{m.ground, t}).covers(p) {
			return n
		}
	}
	return none
}
