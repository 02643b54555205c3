package facet_test

import (
	"math/rand"
	"slices"
	"testing"

	"facet/api"
	"facet/facet"
)

type polygonCase struct {
	why   string
	list  rings
	fault api.Errno
	area  int
}

func expect(t *testing.T, cases []polygonCase) {
	t.Helper()
	for _, c := range cases {
		if fault := facet.Check(c.list); fault != c.fault {
			t.Errorf("%s: Check %d, want %d", c.why, fault, c.fault)
		}
		if area, fault := facet.Area(c.list); area != c.area || fault != c.fault {
			t.Errorf("%s: Area %d, %d, want %d, %d", c.why, area, fault, c.area, c.fault)
		}
	}
}

func TestValidPolygons(t *testing.T) {
	expect(t, []polygonCase{
		{"a square", rings{square(0, 0, 4)}, api.OK, 32},
		{"the other way round", rings{ring(0, 4, 4, 4, 4, 0, 0, 0)}, api.OK, 32},
		{"with a hole", rings{square(0, 0, 4), ring(1, 1, 1, 2, 2, 1)}, api.OK, 31},
		{"with a hole the other way round", rings{square(0, 0, 4), ring(1, 1, 2, 1, 1, 2)}, api.OK, 31},
		{"the kite", rings{ring(0, 0, 3, -1, 9, 0, 3, 1)}, api.OK, 18},
		{"the least", rings{ring(0, 0, 1, 0, 0, 1)}, api.OK, 1},
		{"a thin one", rings{ring(-most, -most, most, most-1, most, most)}, api.OK, 2 * most},
		{"as far as can be", rings{square(-most, -most, 2*most)}, api.OK, 8 * most * most},
		{"as far, with a hole nearly so", rings{square(-most, -most, 2*most), square(1-most, 1-most, 2*most-2)}, api.OK, 8*most*most - 8*(most-1)*(most-1)},
		{"points on one line", rings{ring(0, 0, 1, 0, 2, 0, 4, 0, 4, 4, 2, 4, 0, 4, 0, 1)}, api.OK, 32},
		{"a hole with points on one line", rings{square(0, 0, 9), ring(1, 1, 2, 1, 3, 1, 3, 3, 1, 3)}, api.OK, 162 - 8},
		{"edges on one line, apart", rings{ring(0, 0, 2, 0, 2, 3, 4, 3, 4, 0, 6, 0, 6, 6, 0, 6)}, api.OK, 60},
		{"all holes there can be", holed(7), api.OK, 20000 - 7*8},
		{"a hole in a hole's dent", rings{square(0, 0, 90), ring(10, 10, 70, 10, 70, 70, 40, 20, 10, 70), square(39, 60, 2)}, api.OK, 16200 - 4200 - 8},
		{"a hole at a vertex's height", rings{ring(0, 0, 20, 10, 0, 20, -20, 10), ring(-3, 10, 0, 9, 3, 10, 0, 11)}, api.OK, 800 - 12},
	})
}

func TestNumberOfRings(t *testing.T) {
	expect(t, []polygonCase{
		{"nil", nil, api.ErrRings, 0},
		{"no rings", rings{}, api.ErrRings, 0},
		{"one hole too many", holed(8), api.ErrRings, 0},
		{"nine empty ones", make(rings, 9), api.ErrRings, 0},
		{"eight empty ones", make(rings, 8), api.ErrShort, 0},
	})
}

func TestShortRings(t *testing.T) {
	expect(t, []polygonCase{
		{"nil", rings{nil}, api.ErrShort, 0},
		{"an empty one", rings{{}}, api.ErrShort, 0},
		{"a point", rings{ring(1, 1)}, api.ErrShort, 0},
		{"two points", rings{ring(1, 1, 2, 2)}, api.ErrShort, 0},
		{"a short hole", rings{square(0, 0, 9), ring(1, 1, 2, 2)}, api.ErrShort, 0},
		{"a short outer one", rings{ring(0, 0, 9, 9), square(1, 1, 2)}, api.ErrShort, 0},
		{"the last is short", append(holed(6), ring(90, 90)), api.ErrShort, 0},
	})
}

func TestRange(t *testing.T) {
	many := rings{bow(60), ring(3, 10, 3, 11, 4, 18, 4, 17)}
	expect(t, []polygonCase{
		{"as many points as can be, in two rings", many, api.OK, bowArea(60) - ringArea(many[1])},
		{"as many points as can be, in one", rings{bow(64)}, api.OK, bowArea(64)},
		{"one more", rings{bow(65)}, api.ErrRange, 0},
		{"one more, in two rings", rings{bow(61), many[1]}, api.ErrRange, 0},
	})
	for _, far := range []int{most + 1, -most - 1, 1 << 32, -1 << 32, 1<<63 - 1, -1 << 63} {
		expect(t, []polygonCase{
			{"x too far", rings{ring(0, 0, far, 0, 0, 1)}, api.ErrRange, 0},
			{"y too far", rings{ring(0, 0, 1, 0, 0, far)}, api.ErrRange, 0},
			{"both too far", rings{ring(far, far, 1, 0, 0, 1)}, api.ErrRange, 0},
			{"a hole's last point too far", rings{square(0, 0, 9), ring(1, 1, 2, 1, 1, far)}, api.ErrRange, 0},
		})
	}
	for _, near := range []int{most, -most} {
		expect(t, []polygonCase{
			{"x at the bound", rings{ring(0, 0, near, 0, 0, 1)}, api.OK, most},
			{"y at the bound", rings{ring(0, 0, 1, 0, 0, near)}, api.OK, most},
		})
	}
}

// bowArea tells twice the area of a bow: that below its chord, less that below
// its steps.
func bowArea(n int) int {
	area := (n - 1) * (n - 1) * (n - 1)
	for i := range n - 1 {
		area -= i*i + (i+1)*(i+1)
	}
	return area
}

// ringArea tells twice the area of a ring whose first point sees all edges.
func ringArea(r []api.Point) int {
	area := 0
	for i := range len(r) - 2 {
		a, b, c := r[0], r[i+1], r[i+2]
		area += (b.X-a.X)*(c.Y-a.Y) - (b.Y-a.Y)*(c.X-a.X)
	}
	return max(area, -area)
}

func TestTwice(t *testing.T) {
	expect(t, []polygonCase{
		{"side by side", rings{ring(0, 0, 4, 0, 4, 0, 4, 4)}, api.ErrTwice, 0},
		{"the last and the first", rings{ring(0, 0, 4, 0, 4, 4, 0, 0)}, api.ErrTwice, 0},
		{"there and back", rings{ring(0, 0, 4, 0, 4, 4, 4, 0)}, api.ErrTwice, 0},
		{"three times the same", rings{ring(5, 5, 5, 5, 5, 5)}, api.ErrTwice, 0},
		{"the same ring", rings{ring(0, 0, 4, 0, 0, 4), ring(0, 0, 4, 0, 0, 4)}, api.ErrTwice, 0},
		{"a corner of two rings", rings{square(0, 0, 9), ring(9, 9, 8, 7, 7, 8)}, api.ErrTwice, 0},
		{"a corner of two holes", rings{square(0, 0, 9), square(1, 1, 3), square(4, 4, 3)}, api.ErrTwice, 0},
		{"at the bounds", rings{ring(most, -most, 0, 0, most, most, most, -most)}, api.ErrTwice, 0},
		{"x and y changed about", rings{ring(1, 2, 2, 1, 5, 5)}, api.OK, 7},
	})
}

func TestTouch(t *testing.T) {
	big := square(0, 0, 40)
	expect(t, []polygonCase{
		{"back on itself", rings{ring(0, 0, 4, 0, 2, 0)}, api.ErrTouch, 0},
		{"beyond itself", rings{ring(0, 0, 4, 0, -2, 0)}, api.ErrTouch, 0},
		{"on one line in order", rings{ring(0, 0, 2, 0, 4, 0)}, api.ErrTouch, 0},
		{"back on itself in a larger one", rings{ring(0, 0, 6, 0, 3, 0, 3, 5)}, api.ErrTouch, 0},
		{"back at the ring's end", rings{ring(3, 0, 3, 5, 0, 0, 6, 0)}, api.ErrTouch, 0},
		{"a spike that follows the edge farther", rings{ring(0, 0, 4, 0, 4, 4, 4, -3, 0, -3)}, api.ErrTouch, 0},
		{"crossed", rings{ring(0, 0, 4, 4, 4, 0, 0, 4)}, api.ErrTouch, 0},
		{"a corner on an edge", rings{ring(0, 0, 4, 0, 4, 4, 2, 0, 0, 4)}, api.ErrTouch, 0},
		{"an edge over an edge", rings{ring(0, 0, 6, 0, 6, 3, 4, 0, 2, 0, 0, 3)}, api.ErrTouch, 0},
		{"a hole's corner on the outer ring", rings{big, ring(0, 5, 5, 5, 5, 6)}, api.ErrTouch, 0},
		{"a hole's edge on the outer ring", rings{big, ring(0, 5, 0, 9, 5, 6)}, api.ErrTouch, 0},
		{"the outer ring's corner on a hole", rings{ring(0, 0, 40, 0, 40, 40, 20, 20, 0, 40), ring(19, 20, 21, 20, 20, 5)}, api.ErrTouch, 0},
		{"a hole through the outer ring", rings{big, ring(35, 5, 45, 5, 35, 9)}, api.ErrTouch, 0},
		{"a hole that only its middle takes outside", rings{ring(0, 0, 40, 0, 40, 40, 20, 5, 0, 40), ring(5, 15, 35, 15, 20, 3)}, api.ErrTouch, 0},
		{"holes that cross", rings{big, square(2, 2, 9), square(8, 8, 9)}, api.ErrTouch, 0},
		{"holes side by side on an edge", rings{big, square(2, 2, 9), square(11, 5, 3)}, api.ErrTouch, 0},
		{"a hole's corner on another hole", rings{big, square(2, 2, 9), ring(11, 5, 20, 5, 20, 8)}, api.ErrTouch, 0},
		{"by a hair at the bounds", rings{ring(-most, -most, most, most, 0, 0, most, -most)}, api.ErrTouch, 0},
	})
}

func TestOutside(t *testing.T) {
	dented := ring(0, 0, 40, 0, 40, 40, 20, 10, 0, 40)
	expect(t, []polygonCase{
		{"beside it", rings{ring(0, 0, 4, 0, 0, 4), ring(3, 3, 5, 3, 3, 5)}, api.ErrOutside, 0},
		{"around it", rings{square(0, 0, 4), square(-9, -9, 30)}, api.ErrOutside, 0},
		{"in its dent", rings{dented, square(20, 30, 2)}, api.ErrOutside, 0},
		{"beside its dent", rings{dented, square(36, 30, 1)}, api.OK, 2000 - 2},
		{"to the right of a corner", rings{ring(0, 0, 10, 5, 0, 10), ring(12, 5, 13, 5, 12, 6)}, api.ErrOutside, 0},
		{"to the left of two corners", rings{ring(0, 0, 10, 5, 0, 10, -10, 5), ring(-12, 5, -13, 5, -12, 6)}, api.ErrOutside, 0},
		{"to the left of an edge's height", rings{square(0, 0, 4), ring(-2, 0, -1, 0, -2, 4)}, api.ErrOutside, 0},
		{"the second of two", rings{square(0, 0, 9), square(1, 1, 2), square(20, 1, 2)}, api.ErrOutside, 0},
		{"the last of seven", append(holed(6), square(200, 200, 2)), api.ErrOutside, 0},
	})
}

func TestNested(t *testing.T) {
	big := square(0, 0, 90)
	expect(t, []polygonCase{
		{"the second in the first", rings{big, square(5, 5, 20), square(6, 6, 2)}, api.ErrNested, 0},
		{"the first in the second", rings{big, square(6, 6, 2), square(5, 5, 20)}, api.ErrNested, 0},
		{"the first in the third", rings{big, square(6, 6, 2), square(60, 60, 2), square(5, 5, 20)}, api.ErrNested, 0},
		{"three in a row", rings{big, square(5, 5, 20), square(6, 6, 12), square(7, 7, 2)}, api.ErrNested, 0},
		{"at a corner's height", rings{big, ring(40, 20, 60, 40, 40, 60, 20, 40), ring(39, 40, 40, 39, 41, 40)}, api.ErrNested, 0},
		{"beside, at a corner's height", rings{big, ring(40, 20, 60, 40, 40, 60, 20, 40), ring(15, 40, 16, 39, 17, 40)}, api.OK, 16200 - 1600 - 2},
	})
}

// someRings makes a polygon of few points in a small grid; now and then the
// outer ring is a frame around it, so that all holes are within.
func someRings(r *rand.Rand) rings {
	list := rings{someRing(r, 0, 13)}
	if r.Intn(2) == 0 {
		list[0] = square(-1, -1, 17)
	}
	for range r.Intn(4) {
		if r.Intn(2) == 0 {
			list = append(list, someRing(r, 0, 16))
		} else {
			list = append(list, someRing(r, r.Intn(12), 2+r.Intn(3)))
		}
	}
	return list
}

func someRing(r *rand.Rand, low, wide int) []api.Point {
	var points []api.Point
	for range 3 + r.Intn(1+r.Intn(4)) {
		points = append(points, at(low+r.Intn(wide), low+r.Intn(wide)))
	}
	return points
}

func TestManyPolygons(t *testing.T) {
	r := rand.New(rand.NewSource(4))
	var seen [api.ErrNested + 1]int
	for range 100000 {
		list := someRings(r)
		want := slowCheck(list)
		seen[want]++
		if fault := facet.Check(list); fault != want {
			t.Fatalf("Check(%v) = %d, want %d", list, fault, want)
		}
		twice := 0
		if want == api.OK {
			twice = slowArea(list, -1, 16)
		}
		if area, fault := facet.Area(list); area != twice || fault != want {
			t.Fatalf("Area(%v) = %d, %d, want %d, %d", list, area, fault, twice, want)
		}
	}
	if seen[api.OK] < 100 || slices.Min(seen[api.ErrTwice:]) < 100 {
		t.Errorf("each answer came so often: %v: the polygons are badly chosen", seen)
	}
}

// TestOrderSaysNothing: an answer hangs on the polygon, not on where a ring
// begins, which way round it goes, or which hole comes first.
func TestOrderSaysNothing(t *testing.T) {
	r := rand.New(rand.NewSource(5))
	for range 20000 {
		list := someRings(r)
		area, fault := facet.Area(list)
		other := copyOf(list)
		for i, one := range other {
			begin := r.Intn(len(one))
			other[i] = slices.Concat(one[begin:], one[:begin])
			if r.Intn(2) == 0 {
				slices.Reverse(other[i])
			}
		}
		slices.Reverse(other[1:])
		if a, f := facet.Area(other); a != area || f != fault {
			t.Fatalf("Area(%v) = %d, %d, but of %v %d, %d", list, area, fault, other, a, f)
		}
	}
}
