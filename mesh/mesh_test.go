package mesh

import (
	"testing"

	"facet/api"
	"facet/polygon"
)

func kite() polygon.Polygon {
	return polygon.Polygon{{{X: 0, Y: 0}, {X: 3, Y: -1}, {X: 9, Y: 0}, {X: 3, Y: 1}}}
}

// TestEachEdgeHasItsLeft: each edge of a triangle is known, this way round.
func TestEachEdgeHasItsLeft(t *testing.T) {
	m := New(kite())
	want := map[polygon.Edge]int{{0, 1}: 0, {1, 3}: 0, {3, 0}: 0, {1, 2}: 1, {2, 3}: 1, {3, 1}: 1}
	if len(m.left) != len(want) {
		t.Errorf("to the left of edges: %v", m.left)
	}
	for e, n := range want {
		if got, there := m.left[e]; got != n || !there {
			t.Errorf("to the left of %v: %d, %v", e, got, there)
		}
	}
}

func TestRight(t *testing.T) {
	m := New(kite())
	for e, want := range map[polygon.Edge]int{{0, 1}: none, {1, 0}: 0, {1, 3}: 1, {3, 1}: 0, {0, 2}: none, {2, 0}: none} {
		if got := m.right(e); got != want {
			t.Errorf("to the right of %v: %d, want %d", e, got, want)
		}
	}
}

// TestNoRingIsKept: a mesh has points of its own.
func TestNoRingIsKept(t *testing.T) {
	rings := kite()
	m := New(rings)
	clear(rings[0])
	if n := m.Locate(api.Point{X: 9}); n != 1 {
		t.Errorf("the tip is in %d", n)
	}
}
