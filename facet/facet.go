// Package facet: polygons with holes, cut into triangles: see DOC.md.
package facet

import (
	"facet/api"
	"facet/mesh"
	"facet/plane"
	"facet/polygon"
)

// Mesh is a polygon's triangles.
type Mesh struct {
	mesh mesh.Mesh
}

// Turn tells whether c is to the left of a to b (P2).
func Turn(a, b, c api.Point) int { return plane.Turn(a, b, c) }

// Circle tells whether d is within the circle through a, b and c (P2).
func Circle(a, b, c, d api.Point) int { return plane.Circle(a, b, c, d) }

// Meet tells whether two segments share a point (P3).
func Meet(a, b, c, d api.Point) bool { return plane.Meet(a, b, c, d) }

// Check tells whether a polygon is valid (P4).
func Check(rings [][]api.Point) api.Errno { return polygon.Polygon(rings).Check() }

// Area tells twice the area of a polygon's inside (P4).
func Area(rings [][]api.Point) (int, api.Errno) {
	if fault := Check(rings); fault != api.OK {
		return 0, fault
	}
	return polygon.Polygon(rings).Area(), api.OK
}

// New cuts a polygon into triangles (P5).
func New(rings [][]api.Point) (*Mesh, api.Errno) {
	if fault := Check(rings); fault != api.OK {
		return nil, fault
	}
	return &Mesh{mesh.New(rings)}, api.OK
}

// Triangles tells them all (P5).
func (m *Mesh) Triangles() []api.Triangle { return m.mesh.Triangles() }

// Beside tells which triangles are beside one (P7).
func (m *Mesh) Beside(triangle int) (api.Triangle, api.Errno) { return m.mesh.Beside(triangle) }

// Locate tells in which triangle a point is (P8).
func (m *Mesh) Locate(p api.Point) int { return m.mesh.Locate(p) }
