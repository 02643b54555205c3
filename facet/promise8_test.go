package facet_test

import (
	"math"
	"math/rand"
	"slices"
	"testing"

	"facet/api"
	"facet/facet"
)

// slowLocate asks the triangles one behind the other. Its points are no more
// than a little out of the bounds.
func slowLocate(triangles []api.Triangle, points []api.Point, p api.Point) int {
	for n, u := range triangles {
		if inTriangle(p, points[u[0]], points[u[1]], points[u[2]]) {
			return n
		}
	}
	return -1
}

// nearPoints has a polygon's vertices, the middles between each two of them
// where these are whole, and the points next to all of those.
func nearPoints(list rings) []api.Point {
	vertices := slices.Concat(list...)
	spots := slices.Clone(vertices)
	for i, a := range vertices {
		for _, b := range vertices[:i] {
			if (a.X+b.X)%2 == 0 && (a.Y+b.Y)%2 == 0 {
				spots = append(spots, at((a.X+b.X)/2, (a.Y+b.Y)/2))
			}
		}
	}
	var near []api.Point
	for _, p := range spots {
		near = append(near, p, at(p.X-1, p.Y), at(p.X+1, p.Y), at(p.X, p.Y-1), at(p.X, p.Y+1))
	}
	return near
}

func expectPlace(t *testing.T, why string, m *facet.Mesh, p api.Point, want int) {
	t.Helper()
	if got := m.Locate(p); got != want {
		t.Fatalf("%s: %v: Locate(%v) = %d, want %d", why, m.Triangles(), p, got, want)
	}
}

func TestKnownPlaces(t *testing.T) {
	kite := rings{ring(0, 0, 3, -1, 9, 0, 3, 1)}                        // 0 1 3, 1 2 3
	frame := rings{ring(0, 0, 9, 0, 0, 9), ring(2, 2, 4, 2, 2, 3)}      // 0 1 4, 0 3 5, 0 4 3, 0 5 2, 1 2 4, 2 5 4
	far := rings{ring(-most, -most, most, -most, 0, most)}              // one alone
	wide := rings{ring(-most, -most, most, -most, most, most, 0, most)} // 0 1 3, 1 2 3
	for _, c := range []struct {
		why  string
		list rings
		p    api.Point
		want int
	}{
		{"within the first", kite, at(2, 0), 0},
		{"within the last", kite, at(4, 0), 1},
		{"on the edge that two share", kite, at(3, 0), 0},
		{"a corner that two share", kite, at(3, 1), 0},
		{"the other corner that two share", kite, at(3, -1), 0},
		{"the first's own corner", kite, at(0, 0), 0},
		{"the last's own corner", kite, at(9, 0), 1},
		{"on a side of the last", kite, at(6, 0), 1},
		{"outside, to the right", kite, at(10, 0), -1},
		{"outside, above the tip", kite, at(9, 1), -1},
		{"outside, to the left", kite, at(-1, 0), -1},
		{"outside, in the box around it", kite, at(1, 1), -1},
		{"outside, above", kite, at(3, 2), -1},
		{"outside, below", kite, at(3, -2), -1},

		{"a corner of four", frame, at(0, 0), 0},
		{"on the outer ring", frame, at(5, 0), 0},
		{"on the outer ring, at the left", frame, at(0, 5), 3},
		{"on the outer ring, at the slant", frame, at(5, 4), 4},
		{"a corner of the outer ring", frame, at(0, 9), 3},
		{"a corner of the hole", frame, at(2, 2), 1},
		{"the other corner of the hole", frame, at(4, 2), 0},
		{"the third corner of the hole", frame, at(2, 3), 1},
		{"on the hole's edge", frame, at(3, 2), 2},
		{"on an edge to the hole", frame, at(1, 1), 1},
		{"on another edge to the hole", frame, at(2, 1), 0},
		{"within the fourth", frame, at(1, 4), 3},
		{"within the last", frame, at(3, 3), 5},
		{"outside, at the slant", frame, at(5, 5), -1},

		{"the least corner", far, at(-most, -most), 0},
		{"another far corner", far, at(most, -most), 0},
		{"the highest corner", far, at(0, most), 0},
		{"on a far edge", far, at(1, -most), 0},
		{"in the midst", far, at(0, 0), 0},
		{"as far as can be, outside", far, at(most, most), -1},
		{"as far as can be, outside, at the left", far, at(-most, most), -1},
		{"next to a far corner", far, at(1, most), -1},
		{"below a far edge, out of the bounds", far, at(0, -most-1), -1},
		{"above the far corner, out of the bounds", far, at(0, most+1), -1},

		{"a far corner of two", wide, at(most, -most), 0},
		{"the highest corner", wide, at(most, most), 1},
		{"on the far edge that two share", wide, at(most/2, 0), 0},
		{"beside the far edge that two share", wide, at(most/2+1, 0), 1},
		{"on a far edge of the last", wide, at(most, 0), 1},
		{"next to a far edge", wide, at(most+1, 0), -1},
	} {
		expectPlace(t, c.why, meshOf(t, c.list), c.p, c.want)
	}
}

// TestHolesAreEmpty: points in a hole are in no triangle, those on its edges are.
func TestHolesAreEmpty(t *testing.T) {
	list := rings{square(0, 0, 40), square(5, 5, 10), ring(20, 20, 35, 22, 22, 35), ring(20, 5, 26, 5, 26, 11, 23, 8)}
	for _, turned := range otherWays(list) {
		m := meshOf(t, turned)
		for x := -2; x <= 42; x++ {
			for y := -2; y <= 42; y++ {
				p := at(x, y)
				on := slices.ContainsFunc(list, func(one []api.Point) bool { return onRing(p, one) })
				if in := on || insidePolygon(p, list); (m.Locate(p) >= 0) != in {
					t.Errorf("Locate(%v) = %d", p, m.Locate(p))
				}
			}
		}
	}
}

func TestPlacesNearby(t *testing.T) {
	for _, d := range drawings() {
		for _, list := range otherWays(d.list) {
			m, points := meshOf(t, list), slices.Concat(list...)
			triangles := m.Triangles()
			for _, p := range nearPoints(list) {
				expectPlace(t, d.why, m, p, slowLocate(triangles, points, p))
			}
		}
	}
}

// TestCornersAreIn: a vertex is in the first triangle that it is a corner of.
func TestCornersAreIn(t *testing.T) {
	for _, d := range drawings() {
		m := meshOf(t, d.list)
		for v, p := range slices.Concat(d.list...) {
			want := slices.IndexFunc(m.Triangles(), func(u api.Triangle) bool { return slices.Contains(u[:], v) })
			expectPlace(t, d.why, m, p, want)
		}
	}
}

func TestManyPlaces(t *testing.T) {
	r := rand.New(rand.NewSource(81))
	in, out := 0, 0
	for range 500 {
		list := grown(r)
		m, points := meshOf(t, list), slices.Concat(list...)
		triangles := m.Triangles()
		ask := nearPoints(list)
		for range 200 {
			ask = append(ask, somePoint(r, []int{5, 12, 40, 1000, most}[r.Intn(5)]))
		}
		for _, p := range ask {
			want := slowLocate(triangles, points, p)
			expectPlace(t, "grown", m, p, want)
			if want < 0 {
				out++
			} else {
				in++
			}
		}
	}
	if in < 10000 || out < 10000 {
		t.Errorf("%d points within, %d without: they are badly chosen", in, out)
	}
}

// TestPlacesFarOut: where numbers of 64 bits would run over, some of these
// points would seem to be in a triangle.
func TestPlacesFarOut(t *testing.T) {
	ends := []int{math.MinInt, math.MinInt + 1, -1 << 62, -1 << 43, -1 << 32, -most - 1, -most, 0, 1, most, most + 1, 1 << 31, 1 << 43, 1 << 62, math.MaxInt - 1, math.MaxInt}
	for _, d := range append(drawings(), drawing{"with even sides", rings{square(0, 0, 64)}}) {
		m := meshOf(t, d.list)
		for _, x := range ends {
			for _, y := range ends {
				if max(x, y) > most || min(x, y) < -most {
					expectPlace(t, d.why, m, at(x, y), -1)
				}
			}
		}
		for _, v := range slices.Concat(d.list...) {
			for bit := 22; bit < 64; bit++ {
				far := 1 << bit
				for _, p := range []api.Point{at(v.X+far, v.Y), at(v.X, v.Y+far), at(v.X+far, v.Y+far), at(v.X-far, v.Y+far), at(v.X, v.Y-far)} {
					expectPlace(t, d.why, m, p, -1)
				}
			}
		}
	}
}
