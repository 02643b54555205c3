package facet_test

import (
	"math"
	"math/rand"
	"slices"
	"testing"

	"facet/api"
	"facet/facet"
)

// slowBeside looks through all triangles for those that share an edge.
func slowBeside(triangles []api.Triangle, n int) api.Triangle {
	beside := api.Triangle{-1, -1, -1}
	for i := range 3 {
		from, to := triangles[n][i], triangles[n][(i+1)%3]
		for j, u := range triangles {
			if j != n && slices.Contains(u[:], from) && slices.Contains(u[:], to) {
				beside[i] = j
			}
		}
	}
	return beside
}

// expectBeside asks for each triangle, from the first to the last.
func expectBeside(t *testing.T, why string, list rings) {
	t.Helper()
	m := meshOf(t, list)
	triangles := m.Triangles()
	for n := range triangles {
		want := slowBeside(triangles, n)
		if got, fault := m.Beside(n); got != want || fault != api.OK {
			t.Fatalf("%s: %v: Beside(%d) of %v = %v, %d, want %v", why, list, n, triangles, got, fault, want)
		}
	}
}

func TestKnownBeside(t *testing.T) {
	for _, c := range []struct {
		why  string
		list rings
		want []api.Triangle
	}{
		{"three points", rings{ring(0, 0, 3, 0, 0, 3)}, []api.Triangle{{-1, -1, -1}}},
		{"three points to the right", rings{ring(0, 0, 0, 3, 3, 0)}, []api.Triangle{{-1, -1, -1}}},
		{"three far points", rings{ring(most, most, -most, most, -most, -most)}, []api.Triangle{{-1, -1, -1}}},
		{"the kite", rings{ring(0, 0, 3, -1, 9, 0, 3, 1)}, []api.Triangle{{-1, 1, -1}, {-1, -1, 0}}},
		{"the kite to the right", rings{ring(0, 0, 3, 1, 9, 0, 3, -1)}, []api.Triangle{{-1, 1, -1}, {0, -1, -1}}},
		{"the kite from its side", rings{ring(3, 1, 0, 0, 3, -1, 9, 0)}, []api.Triangle{{-1, -1, 1}, {0, -1, -1}}},
		{"as far as can be", rings{ring(-most, -most, most, -most, most-1, most-1, -most, most)}, []api.Triangle{{-1, -1, 1}, {0, -1, -1}}},
		{"a dart", rings{ring(0, 0, 8, 0, 4, 2, 4, 9)}, []api.Triangle{{-1, -1, 1}, {0, -1, -1}}},
		{"a point on a side", rings{ring(0, 0, 2, 0, 4, 0, 2, 9)}, []api.Triangle{{-1, 1, -1}, {-1, -1, 0}}},
		{"a hole in the midst", rings{ring(0, 0, 9, 0, 0, 9), ring(2, 2, 4, 2, 2, 3)}, []api.Triangle{{-1, 4, 2}, {2, -1, 3}, {0, -1, 1}, {1, 5, -1}, {-1, 5, 0}, {3, -1, 4}}},
	} {
		m := meshOf(t, c.list)
		if count := len(m.Triangles()); count != len(c.want) {
			t.Fatalf("%s: %d triangles", c.why, count)
		}
		for n, want := range c.want {
			if got, fault := m.Beside(n); got != want || fault != api.OK {
				t.Errorf("%s: Beside(%d) = %v, %d, want %v", c.why, n, got, fault, want)
			}
		}
	}
}

func TestBeside(t *testing.T) {
	for _, d := range drawings() {
		for _, list := range otherWays(d.list) {
			expectBeside(t, d.why, list)
		}
	}
}

func TestManyBeside(t *testing.T) {
	r := rand.New(rand.NewSource(7))
	for range 2000 {
		list := grown(r)
		for _, one := range list {
			if r.Intn(2) == 0 {
				slices.Reverse(one)
			}
		}
		expectBeside(t, "grown", list)
	}
}

// TestBesideGoesBothWays: who has one beside it is beside that one, at the same
// edge; nothing is beside the polygon's edges, and they alone have nothing.
func TestBesideGoesBothWays(t *testing.T) {
	for _, d := range drawings() {
		m := meshOf(t, d.list)
		alone := 0
		for n, u := range m.Triangles() {
			beside, _ := m.Beside(n)
			for i, other := range beside {
				if other == -1 {
					alone++
				} else if !backTo(m, other, n, u[(i+1)%3], u[i]) {
					t.Errorf("%s: %d has %d beside it, but not the other way", d.why, n, other)
				}
			}
		}
		if edges := len(slices.Concat(d.list...)); alone != edges {
			t.Errorf("%s: %d edges with nothing beside them, but %d of the polygon", d.why, alone, edges)
		}
	}
}

// backTo tells whether n is beside other at the edge between two vertices.
func backTo(m *facet.Mesh, other, n, from, to int) bool {
	u := m.Triangles()[other]
	beside, _ := m.Beside(other)
	for i := range 3 {
		if u[i] == from && u[(i+1)%3] == to {
			return beside[i] == n
		}
	}
	return false
}

func TestNoSuchTriangle(t *testing.T) {
	for _, d := range drawings() {
		m := meshOf(t, d.list)
		count := len(m.Triangles())
		for _, n := range []int{
			-1, -2, -count, -count - 1, count, count + 1, 2 * count, 1 << 8, 1 << 16, 1 << 31, 1 << 32, 1<<32 + count - 1, 1 << 62, 1 << 53,
			-1 << 8, -1 << 16, -1 << 31, -1 << 32, -1 << 62, math.MinInt, math.MinInt + 1, math.MaxInt - 1, math.MaxInt,
		} {
			if beside, fault := m.Beside(n); beside != (api.Triangle{}) || fault != api.ErrTriangle {
				t.Errorf("%s, of %d triangles: Beside(%d) = %v, %d", d.why, count, n, beside, fault)
			}
		}
		for _, n := range []int{0, count - 1} {
			if _, fault := m.Beside(n); fault != api.OK {
				t.Errorf("%s, of %d triangles: Beside(%d) tells the error %d", d.why, count, n, fault)
			}
		}
	}
}
