package facet_test

import (
	"math/rand"
	"slices"
	"testing"

	"facet/api"
	"facet/facet"
)

// meshOf tells a valid polygon's mesh.
func meshOf(t *testing.T, list rings) *facet.Mesh {
	t.Helper()
	m, fault := facet.New(list)
	if m == nil || fault != api.OK {
		t.Fatalf("New(%v) = %v, %d", list, m, fault)
	}
	return m
}

// trianglesOf tells the triangles of a valid polygon's mesh.
func trianglesOf(t *testing.T, list rings) []api.Triangle {
	t.Helper()
	return meshOf(t, list).Triangles()
}

func expectMesh(t *testing.T, why string, list rings) {
	t.Helper()
	triangles := trianglesOf(t, list)
	if fault := meshFault(list, triangles); fault != "" {
		t.Fatalf("%s: %v: %v: %s", why, list, triangles, fault)
	}
}

// TestMeshFaultsAreSeen: what the other tests lean on finds each fault.
func TestMeshFaultsAreSeen(t *testing.T) {
	kite := rings{ring(0, 0, 3, -1, 9, 0, 3, 1)}
	dart := rings{ring(0, 0, 8, 0, 4, 2, 4, 9)}
	side := rings{ring(0, 0, 2, 0, 4, 0, 2, 9)}
	frame := rings{ring(0, 0, 9, 0, 0, 9), ring(2, 2, 4, 2, 2, 3)}
	for _, c := range []struct {
		why       string
		list      rings
		triangles []api.Triangle
	}{
		{"none", kite, nil},
		{"one too few", kite, []api.Triangle{{0, 1, 3}}},
		{"one twice", kite, []api.Triangle{{0, 1, 3}, {0, 1, 3}, {1, 2, 3}}},
		{"not in order", kite, []api.Triangle{{1, 2, 3}, {0, 1, 3}}},
		{"the least number behind", kite, []api.Triangle{{0, 1, 3}, {2, 3, 1}}},
		{"to the right", kite, []api.Triangle{{0, 3, 1}, {1, 2, 3}}},
		{"no such vertex", kite, []api.Triangle{{0, 1, 3}, {1, 2, 4}}},
		{"the long diagonal", kite, []api.Triangle{{0, 1, 2}, {0, 2, 3}}},
		{"one on the other", kite, []api.Triangle{{0, 1, 2}, {0, 1, 3}}},
		{"outside", dart, []api.Triangle{{0, 1, 3}}},
		{"a vertex on an edge", side, []api.Triangle{{0, 2, 3}}},
		{"over the hole", frame, []api.Triangle{{0, 1, 2}}},
		{"the hole too", frame, []api.Triangle{{0, 1, 4}, {0, 3, 5}, {0, 4, 3}, {0, 5, 2}, {1, 2, 4}, {2, 5, 4}, {3, 4, 5}}},
		{"all but one", frame, []api.Triangle{{0, 1, 4}, {0, 3, 5}, {0, 4, 3}, {0, 5, 2}, {1, 2, 4}}},
		{"not as round as can be", frame, []api.Triangle{{0, 1, 4}, {0, 3, 5}, {0, 4, 3}, {0, 5, 2}, {1, 2, 5}, {1, 5, 4}}},
	} {
		if meshFault(c.list, c.triangles) == "" {
			t.Errorf("%s: %v is taken for a mesh of %v", c.why, c.triangles, c.list)
		}
	}
}

// TestKnownMeshes has polygons with one mesh alone.
func TestKnownMeshes(t *testing.T) {
	for _, c := range []struct {
		why  string
		list rings
		want []api.Triangle
	}{
		{"three points", rings{ring(0, 0, 3, 0, 0, 3)}, []api.Triangle{{0, 1, 2}}},
		{"three points to the right", rings{ring(0, 0, 0, 3, 3, 0)}, []api.Triangle{{0, 2, 1}}},
		{"three far points", rings{ring(most, most, -most, most, -most, -most)}, []api.Triangle{{0, 1, 2}}},
		{"the kite", rings{ring(0, 0, 3, -1, 9, 0, 3, 1)}, []api.Triangle{{0, 1, 3}, {1, 2, 3}}},
		{"the kite to the right", rings{ring(0, 0, 3, 1, 9, 0, 3, -1)}, []api.Triangle{{0, 3, 1}, {1, 3, 2}}},
		{"the kite from its tip", rings{ring(9, 0, 3, 1, 0, 0, 3, -1)}, []api.Triangle{{0, 1, 3}, {1, 2, 3}}},
		{"the kite from its side", rings{ring(3, 1, 0, 0, 3, -1, 9, 0)}, []api.Triangle{{0, 1, 2}, {0, 2, 3}}},
		{"a square with a corner a hair in", rings{ring(0, 0, 1000, 0, 999, 999, 0, 1000)}, []api.Triangle{{0, 1, 2}, {0, 2, 3}}},
		{"a square with a corner a hair out", rings{ring(0, 0, 1000, 0, 1001, 1001, 0, 1000)}, []api.Triangle{{0, 1, 3}, {1, 2, 3}}},
		{"a dart", rings{ring(0, 0, 8, 0, 4, 2, 4, 9)}, []api.Triangle{{0, 1, 2}, {0, 2, 3}}},
		{"a point on a side", rings{ring(0, 0, 2, 0, 4, 0, 2, 9)}, []api.Triangle{{0, 1, 3}, {1, 2, 3}}},
		{"a hole in the midst", rings{ring(0, 0, 9, 0, 0, 9), ring(2, 2, 4, 2, 2, 3)}, []api.Triangle{{0, 1, 4}, {0, 3, 5}, {0, 4, 3}, {0, 5, 2}, {1, 2, 4}, {2, 5, 4}}},
	} {
		if got := trianglesOf(t, c.list); !slices.Equal(got, c.want) {
			t.Errorf("%s: %v, want %v", c.why, got, c.want)
		}
	}
}

func TestMeshes(t *testing.T) {
	for _, d := range drawings() {
		for _, list := range otherWays(d.list) {
			expectMesh(t, d.why, list)
		}
	}
}

// TestEachBeginning: a mesh comes wherever a ring begins.
func TestEachBeginning(t *testing.T) {
	for _, list := range []rings{
		{ring(0, 0, 0, 3, 3, 0)}, {ring(0, 0, 8, 0, 4, 2, 4, 9)}, {comb(4)}, {field(0, 0, 3, 2)},
		{round(0, 0, 25)}, {square(0, 0, 9), square(1, 1, 3), ring(5, 6, 7, 8, 8, 5, 6, 5)},
	} {
		for i := range list {
			for range list[i] {
				list[i] = append(list[i][1:], list[i][0])
				expectMesh(t, "from another point", list)
			}
		}
	}
}

func TestManyMeshes(t *testing.T) {
	r := rand.New(rand.NewSource(51))
	points, holes := 0, 0
	for range 3000 {
		list := grown(r)
		for _, one := range list {
			if r.Intn(2) == 0 {
				slices.Reverse(one)
			}
			points = max(points, len(one))
		}
		holes += len(list) - 1
		expectMesh(t, "grown", list)
	}
	if points < 30 || holes < 1000 {
		t.Errorf("at most %d points in a ring, %d holes together: the polygons are badly chosen", points, holes)
	}
}

// TestEachPointIsCovered asks each point of a fine grid: it is in a triangle
// just if it is inside the polygon or on its edges.
func TestEachPointIsCovered(t *testing.T) {
	r := rand.New(rand.NewSource(52))
	for done := 0; done < 300; {
		list := someRings(r)
		if facet.Check(list) != api.OK {
			continue
		}
		done++
		points, triangles := slices.Concat(list...), trianglesOf(t, list)
		for i := range points {
			points[i] = at(2*points[i].X, 2*points[i].Y)
		}
		fine := copyOf(list)
		for i, from := 0, 0; i < len(list); i++ {
			copy(fine[i], points[from:])
			from += len(list[i])
		}
		for x := -4; x <= 36; x++ {
			for y := -4; y <= 36; y++ {
				p := at(x, y)
				covered := slices.ContainsFunc(triangles, func(u api.Triangle) bool {
					return inTriangle(p, points[u[0]], points[u[1]], points[u[2]])
				})
				on := slices.ContainsFunc(fine, func(one []api.Point) bool { return onRing(p, one) })
				if want := on || insidePolygon(p, fine); covered != want {
					t.Fatalf("%v: %v: half of (%d, %d) in a triangle: %v", list, triangles, x, y, covered)
				}
			}
		}
	}
}

func TestNoMeshBesideAnError(t *testing.T) {
	for _, c := range []struct {
		why   string
		list  rings
		fault api.Errno
	}{
		{"nil", nil, api.ErrRings},
		{"no rings", rings{}, api.ErrRings},
		{"one hole too many", holed(8), api.ErrRings},
		{"an empty ring", rings{nil}, api.ErrShort},
		{"two points", rings{ring(0, 0, 5, 5)}, api.ErrShort},
		{"a short hole", rings{square(0, 0, 9), ring(1, 1, 2, 2)}, api.ErrShort},
		{"too far out", rings{ring(0, 0, most+1, 0, 0, 1)}, api.ErrRange},
		{"too far down", rings{ring(0, 0, 5, -most-1, 6, 0)}, api.ErrRange},
		{"far beyond all", rings{ring(0, 0, 1<<62, 0, 0, -1<<63)}, api.ErrRange},
		{"too many points", rings{bow(65)}, api.ErrRange},
		{"too many points together", rings{bow(62), ring(3, 10, 3, 11, 4, 18)}, api.ErrRange},
		{"a point twice", rings{ring(0, 0, 4, 0, 4, 4, 4, 0)}, api.ErrTwice},
		{"a ring twice", rings{square(0, 0, 4), square(0, 0, 4)}, api.ErrTwice},
		{"nothing but a line", rings{ring(0, 0, 4, 0, 2, 0)}, api.ErrTouch},
		{"crossed", rings{ring(0, 0, 4, 4, 4, 0, 0, 4)}, api.ErrTouch},
		{"a hole at an edge", rings{square(0, 0, 40), ring(0, 5, 5, 5, 5, 6)}, api.ErrTouch},
		{"a hole outside", rings{ring(0, 0, 4, 0, 0, 4), ring(3, 3, 5, 3, 3, 5)}, api.ErrOutside},
		{"a hole around it all", rings{square(0, 0, 4), square(-9, -9, 30)}, api.ErrOutside},
		{"a hole in a hole", rings{square(0, 0, 90), square(5, 5, 20), square(6, 6, 2)}, api.ErrNested},
		{"a hole around a hole", rings{square(0, 0, 90), square(6, 6, 2), square(5, 5, 20)}, api.ErrNested},
	} {
		if m, fault := facet.New(c.list); m != nil || fault != c.fault {
			t.Errorf("%s: New %v, %d, want nil, %d", c.why, m, fault, c.fault)
		}
	}
}

// TestNewTellsChecksError: of polygons of all kinds.
func TestNewTellsChecksError(t *testing.T) {
	r := rand.New(rand.NewSource(53))
	for range 20000 {
		list := someRings(r)
		want := facet.Check(list)
		if m, fault := facet.New(list); fault != want || (m != nil) != (want == api.OK) {
			t.Fatalf("New(%v) = %v, %d, want %d", list, m, fault, want)
		}
	}
}
