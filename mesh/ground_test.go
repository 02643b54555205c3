package mesh

import (
	"testing"

	"facet/api"
	"facet/polygon"
)

// lattice has the whole points from (0, 0) to (4, 4): that at (x, y) has the
// number 5 y + x.
func lattice() ground {
	var g ground
	for y := range 5 {
		for x := range 5 {
			g.points = append(g.points, api.Point{X: x, Y: y})
		}
	}
	return g
}

func TestEdgeHasItsLeft(t *testing.T) {
	e := edge{lattice(), polygon.Edge{5, 9}}
	for v, want := range map[int]bool{10: true, 14: true, 24: true, 5: false, 7: false, 9: false, 0: false, 4: false} {
		if e.left(v) != want {
			t.Errorf("%d to the left of %v: %v", v, e.ends, !want)
		}
	}
}

func TestNearer(t *testing.T) {
	e := edge{lattice(), polygon.Edge{0, 4}}
	for _, c := range []struct {
		v, other int
		want     bool
	}{{7, 12, true}, {12, 7, false}, {12, 22, true}, {20, 24, false}, {24, 20, false}, {6, 20, true}, {20, 6, false}, {6, 8, false}, {12, 12, false}} {
		if got := e.nearer(c.v, c.other); got != c.want {
			t.Errorf("%d nearer than %d: %v", c.v, c.other, got)
		}
	}
}

func TestCross(t *testing.T) {
	g := lattice()
	for _, c := range []struct {
		e, f polygon.Edge
		want bool
	}{
		{polygon.Edge{0, 12}, polygon.Edge{2, 10}, true},
		{polygon.Edge{0, 12}, polygon.Edge{6, 8}, true},
		{polygon.Edge{0, 4}, polygon.Edge{1, 2}, true},
		{polygon.Edge{0, 1}, polygon.Edge{2, 3}, false},
		{polygon.Edge{0, 12}, polygon.Edge{12, 0}, false},
		{polygon.Edge{0, 12}, polygon.Edge{12, 4}, false},
		{polygon.Edge{0, 12}, polygon.Edge{2, 8}, false},
	} {
		if g.cross(c.e, c.f) != c.want || g.cross(c.f, c.e) != c.want || g.cross(c.e.Turned(), c.f) != c.want {
			t.Errorf("%v crosses %v: %v", c.e, c.f, !c.want)
		}
	}
}

func TestTriangleCovers(t *testing.T) {
	one := triangle{lattice(), api.Triangle{0, 4, 20}}
	for x := -1; x <= 5; x++ {
		for y := -1; y <= 5; y++ {
			want := x >= 0 && y >= 0 && x+y <= 4
			if one.covers(api.Point{X: x, Y: y}) != want {
				t.Errorf("%v covers (%d, %d): %v", one.corners, x, y, !want)
			}
		}
	}
}

func TestTriangleHolds(t *testing.T) {
	one := triangle{lattice(), api.Triangle{0, 4, 20}}
	held := []int{1, 2, 3, 5, 6, 7, 8, 10, 11, 12, 15, 16}
	for v := range one.points {
		want := false
		for _, h := range held {
			want = want || h == v
		}
		if one.holds(v) != want {
			t.Errorf("%v holds %d: %v", one.corners, v, !want)
		}
	}
}

func TestTriangleIsCrossed(t *testing.T) {
	one := triangle{lattice(), api.Triangle{0, 2, 10}}
	for e, want := range map[polygon.Edge]bool{
		{5, 7}: true, {1, 11}: true, {0, 6}: true, {0, 12}: true, {2, 15}: false, {3, 15}: false,
		{2, 10}: false, {12, 24}: false, {10, 14}: false, {10, 1}: true, {2, 5}: true,
	} {
		if one.crossed(e) != want {
			t.Errorf("%v crosses %v: %v", e, one.corners, !want)
		}
	}
}
