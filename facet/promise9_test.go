package facet_test

import (
	"math/rand"
	"slices"
	"testing"

	"facet/api"
	"facet/facet"
)

// turnedBy tells a ring from another point on, the other way round or not.
func turnedBy(one []api.Point, from int, back bool) []api.Point {
	turned := slices.Concat(one[from:], one[:from])
	if back {
		slices.Reverse(turned)
	}
	return turned
}

// shuffled tells the same polygon otherwise, by chance: where its rings begin,
// which way round they go, and which hole comes first.
func shuffled(r *rand.Rand, list rings) rings {
	var all rings
	for _, one := range list {
		all = append(all, turnedBy(one, r.Intn(len(one)+1), r.Intn(2) == 0))
	}
	if len(all) > 1 {
		holes := all[1:]
		r.Shuffle(len(holes), func(i, j int) { holes[i], holes[j] = holes[j], holes[i] })
	}
	return all
}

// byPoints tells triangles by their points: each from its least one on, all in
// order.
func byPoints(list rings, triangles []api.Triangle) [][3]api.Point {
	points := slices.Concat(list...)
	var all [][3]api.Point
	for _, u := range triangles {
		p := [3]api.Point{points[u[0]], points[u[1]], points[u[2]]}
		for comparePoints(p[0], p[1]) > 0 || comparePoints(p[0], p[2]) > 0 {
			p[0], p[1], p[2] = p[1], p[2], p[0]
		}
		all = append(all, p)
	}
	slices.SortFunc(all, func(p, q [3]api.Point) int { return slices.CompareFunc(p[:], q[:], comparePoints) })
	return all
}

func comparePoints(p, q api.Point) int {
	if p.X != q.X {
		return p.X - q.X
	}
	return p.Y - q.Y
}

// oneMeshAlone tells whether for each two triangles side by side the fourth
// vertex is outside the circle of the other one: then no other mesh is right.
func oneMeshAlone(list rings, triangles []api.Triangle) bool {
	points := slices.Concat(list...)
	for n, u := range triangles {
		for _, other := range slowBeside(triangles, n) {
			if other < 0 {
				continue
			}
			for _, v := range triangles[other] {
				if !slices.Contains(u[:], v) && slowCircle(points[u[0]], points[u[1]], points[u[2]], points[v]) >= 0 {
					return false
				}
			}
		}
	}
	return true
}

// expectSame holds the mesh of a polygon against that of the same told
// otherwise. Where several are right, they are so of both.
func expectSame(t *testing.T, why string, list, other rings) {
	t.Helper()
	one, two := trianglesOf(t, list), trianglesOf(t, other)
	alone := oneMeshAlone(list, one)
	if oneMeshAlone(other, two) != alone {
		t.Fatalf("%s: %v has one mesh alone: %v, %v has not", why, list, alone, other)
	}
	if a, b := byPoints(list, one), byPoints(other, two); alone && !slices.Equal(a, b) {
		t.Fatalf("%s: %v has %v, %v has %v", why, list, a, other, b)
	}
}

// oneAlone has polygons with one mesh alone.
func oneAlone() []drawing {
	return []drawing{
		{"three points", rings{ring(0, 0, 3, 0, 0, 3)}},
		{"the kite", rings{ring(0, 0, 3, -1, 9, 0, 3, 1)}},
		{"a square with a corner a hair in", rings{ring(0, 0, 1000, 0, 999, 999, 0, 1000)}},
		{"a square with a corner a hair out", rings{ring(0, 0, 1000, 0, 1001, 1001, 0, 1000)}},
		{"a dart", rings{ring(0, 0, 8, 0, 4, 2, 4, 9)}},
		{"a bow", rings{bow(9)}},
		{"as far as can be", rings{ring(-most, -most, most, 1-most, most-2, most, 3-most, most-4)}},
		{"a hole in the midst", rings{ring(0, 0, 9, 0, 0, 9), ring(2, 2, 4, 2, 2, 3)}},
		{"holes of three and of four", rings{ring(0, 0, 101, 3, 97, 88, 13, 105, -7, 51), ring(20, 20, 23, 31, 41, 22), ring(60, 61, 71, 59, 66, 74, 58, 70)}},
		{"four on a circle that are no corners of two side by side", rings{ring(0, 0, 10, 0, 10, 10, 0, 10), ring(4, 5, 6, 4, 5, 7)}},
	}
}

// TestEachWayIsTheSame tells polygons from each point on, either way round.
func TestEachWayIsTheSame(t *testing.T) {
	for _, d := range oneAlone() {
		if !oneMeshAlone(d.list, trianglesOf(t, d.list)) {
			t.Errorf("%s: %v has more than one mesh: it is badly chosen", d.why, d.list)
		}
		for i, one := range d.list {
			for from := range one {
				for _, back := range []bool{false, true} {
					other := copyOf(d.list)
					other[i] = turnedBy(one, from, back)
					expectSame(t, d.why, d.list, other)
				}
			}
		}
	}
}

// TestEachHoleFirst has all orders of the holes of a polygon.
func TestEachHoleFirst(t *testing.T) {
	outer := ring(0, 0, 101, 3, 97, 88, 13, 105, -7, 51)
	holes := rings{ring(20, 20, 23, 31, 41, 22), ring(60, 61, 71, 59, 66, 74, 58, 70), ring(70, 20, 81, 23, 79, 37), ring(21, 70, 33, 77, 20, 91)}
	first := rings{outer, holes[0], holes[1], holes[2], holes[3]}
	if !oneMeshAlone(first, trianglesOf(t, first)) {
		t.Errorf("%v has more than one mesh: it is badly chosen", first)
	}
	for i := range 4 {
		for j := range 4 {
			for k := range 4 {
				if l := 6 - i - j - k; i != j && j != k && k != i {
					expectSame(t, "another order", first, rings{outer, holes[i], holes[j], holes[k], holes[l]})
				}
			}
		}
	}
}

func TestDrawingsOtherwise(t *testing.T) {
	r := rand.New(rand.NewSource(91))
	for _, d := range append(drawings(), oneAlone()...) {
		for range 10 {
			expectSame(t, d.why, d.list, shuffled(r, d.list))
		}
	}
}

func TestManyOtherwise(t *testing.T) {
	r := rand.New(rand.NewSource(92))
	alone, holes := 0, 0
	for range 800 {
		list := grown(r)
		if oneMeshAlone(list, trianglesOf(t, list)) && len(slices.Concat(list...)) > 5 {
			alone++
			holes += len(list) - 1
		}
		for range 3 {
			expectSame(t, "grown", list, shuffled(r, list))
		}
	}
	if alone < 200 || holes < 150 {
		t.Errorf("%d polygons with one mesh alone, %d holes in them: they are badly chosen", alone, holes)
	}
}

// TestErrorsOtherwise: a polygon has the same fault, however it is told.
func TestErrorsOtherwise(t *testing.T) {
	short, far := ring(1, 1, 2, 2), ring(3, 3, most+1, 4, 4, 5)
	crossed := ring(1, 1, 5, 5, 5, 1, 1, 5)
	for _, c := range []struct {
		list  rings
		fault api.Errno
	}{
		{nil, api.ErrRings},
		{append(holed(7), short), api.ErrRings},
		{append(holed(7), far), api.ErrRings},
		{rings{short}, api.ErrShort},
		{rings{square(0, 0, 9), far, short, crossed}, api.ErrShort},
		{rings{square(0, 0, 9), nil, square(1, 1, 3)}, api.ErrShort},
		{rings{far}, api.ErrRange},
		{rings{square(0, 0, 9), crossed, far, square(0, 0, 3)}, api.ErrRange},
		{rings{bow(60), square(1, 2, 3), square(2, 5, 1)}, api.ErrRange},
		{rings{square(0, 0, 9), square(30, 30, 2), crossed, square(9, 9, 3)}, api.ErrTwice},
		{rings{ring(0, 0, 9, 0, 9, 9, 9, 0, 4, 4)}, api.ErrTwice},
		{rings{crossed}, api.ErrTouch},
		{rings{square(0, 0, 90), square(30, 30, 8), square(31, 31, 2), square(95, 95, 2), crossed}, api.ErrTouch},
		{rings{ring(0, 0, 9, 0, 5, 0)}, api.ErrTouch},
		{rings{square(0, 0, 90), square(30, 30, 8), square(31, 31, 2), square(95, 95, 2)}, api.ErrOutside},
		{rings{square(0, 0, 4), square(-9, -9, 30), square(1, 1, 2)}, api.ErrOutside},
		{rings{square(0, 0, 90), square(30, 30, 8), square(31, 31, 2), square(50, 50, 2)}, api.ErrNested},
	} {
		r := rand.New(rand.NewSource(93))
		for range 50 {
			expectFault(t, shuffled(r, c.list), c.fault)
		}
	}
}

func TestManyErrorsOtherwise(t *testing.T) {
	r := rand.New(rand.NewSource(94))
	for range 5000 {
		list := someRings(r)
		fault := facet.Check(list)
		for range 3 {
			expectFault(t, shuffled(r, list), fault)
		}
	}
}

func expectFault(t *testing.T, list rings, want api.Errno) {
	t.Helper()
	m, fault := facet.New(list)
	if fault != want || (m != nil) != (want == api.OK) || facet.Check(list) != want {
		t.Fatalf("%v: New %v, %d, Check %d, want %d", list, m, fault, facet.Check(list), want)
	}
}
