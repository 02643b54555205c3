package facet_test

import (
	"math/rand"
	"testing"

	"facet/api"
	"facet/facet"
)

// expectCount holds the number of triangles, and twice their areas together,
// against the promise.
func expectCount(t *testing.T, why string, list rings) {
	t.Helper()
	var points []api.Point
	for _, one := range list {
		points = append(points, one...)
	}
	holes := len(list) - 1
	triangles := trianglesOf(t, list)
	if want := len(points) + 2*holes - 2; len(triangles) != want {
		t.Fatalf("%s: %v: %d triangles, want %d", why, list, len(triangles), want)
	}
	sum := 0
	for _, u := range triangles {
		sum += twiceArea(points[u[0]], points[u[1]], points[u[2]])
	}
	if area, fault := facet.Area(list); sum != area || fault != api.OK {
		t.Fatalf("%s: %v: twice the areas together are %d, Area %d, %d", why, list, sum, area, fault)
	}
}

func TestKnownCounts(t *testing.T) {
	for _, c := range []struct {
		why   string
		list  rings
		count int
	}{
		{"three points", rings{ring(0, 0, 3, 0, 0, 3)}, 1},
		{"a square", rings{square(0, 0, 4)}, 2},
		{"a square with a hole", rings{square(0, 0, 4), ring(1, 1, 1, 2, 2, 1)}, 7},
		{"a triangle in a triangle", rings{ring(0, 0, 9, 0, 0, 9), ring(1, 1, 2, 1, 1, 2)}, 6},
		{"as many points as can be", rings{bow(64)}, 62},
		{"as many rings as can be", holed(7), 44},
		{"as many of both", rings{square(-9, -9, 999), field(0, 0, 13, 13)[:40], square(20, 20, 1), square(30, 20, 1), square(40, 20, 1), square(50, 20, 1), square(60, 20, 1)}, 74},
	} {
		if got := trianglesOf(t, c.list); len(got) != c.count {
			t.Errorf("%s: %d triangles, want %d", c.why, len(got), c.count)
		}
	}
}

func TestCountsAndAreas(t *testing.T) {
	for _, d := range drawings() {
		for _, list := range otherWays(d.list) {
			expectCount(t, d.why, list)
		}
	}
}

func TestManyCountsAndAreas(t *testing.T) {
	r := rand.New(rand.NewSource(6))
	for range 2000 {
		expectCount(t, "grown", grown(r))
	}
}
