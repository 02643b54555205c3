package facet_test

import (
	"math/rand"
	"testing"

	"facet/api"
	"facet/facet"
)

func TestMeet(t *testing.T) {
	for _, c := range []struct {
		why        string
		a, b, c, d api.Point
		want       bool
	}{
		{"an end on the other", at(0, 0), at(2, 2), at(1, 1), at(5, 1), true},
		{"one behind the other on a line", at(0, 0), at(1, 1), at(2, 2), at(3, 3), false},
		{"crossed", at(0, 0), at(2, 2), at(0, 2), at(2, 0), true},
		{"crossed between whole points", at(0, 0), at(3, 2), at(0, 1), at(2, 0), true},
		{"boxes that cross, segments that do not", at(0, 0), at(4, 4), at(3, 0), at(4, 3), false},
		{"side by side", at(0, 0), at(4, 4), at(0, 1), at(3, 4), false},
		{"an end in common", at(0, 0), at(4, 0), at(4, 0), at(4, 9), true},
		{"an end in common on a line", at(0, 0), at(4, 0), at(4, 0), at(9, 0), true},
		{"one over the other", at(0, 0), at(4, 0), at(1, 0), at(9, 0), true},
		{"one in the other", at(0, 0), at(0, 9), at(0, 4), at(0, 5), true},
		{"the same", at(1, 2), at(3, 5), at(1, 2), at(3, 5), true},
		{"a point on a segment", at(0, 0), at(6, 4), at(3, 2), at(3, 2), true},
		{"a point at an end", at(0, 0), at(6, 4), at(6, 4), at(6, 4), true},
		{"a point beside a segment", at(0, 0), at(6, 4), at(3, 3), at(3, 3), false},
		{"a point behind a segment", at(0, 0), at(6, 4), at(9, 6), at(9, 6), false},
		{"a point and itself", at(1, 1), at(1, 1), at(1, 1), at(1, 1), true},
		{"two points", at(1, 1), at(1, 1), at(1, 2), at(1, 2), false},
		{"the bounds' diagonals", at(-most, -most), at(most, most), at(-most, most), at(most, -most), true},
		{"by a hair at the bounds", at(-most, -most), at(most, most-1), at(0, 0), at(-1, most), false},
		{"just so at the bounds", at(-most, -most), at(most, most-1), at(0, -1), at(-1, most), true},
		{"a point in the bounds' middle", at(-most, -most), at(most, most), at(0, 0), at(0, 0), true},
	} {
		for _, q := range [][4]api.Point{{c.a, c.b, c.c, c.d}, {c.b, c.a, c.c, c.d}, {c.a, c.b, c.d, c.c}, {c.b, c.a, c.d, c.c}, {c.c, c.d, c.a, c.b}, {c.d, c.c, c.a, c.b}} {
			if meet := facet.Meet(q[0], q[1], q[2], q[3]); meet != c.want {
				t.Errorf("%s: Meet(%v) = %v", c.why, q, meet)
			}
		}
	}
}

// TestMeetOfAllSmall goes through all segments of a small grid, as it is and
// as large as the bounds allow.
func TestMeetOfAllSmall(t *testing.T) {
	for _, scale := range []int{1, most / 2} {
		var points []api.Point
		for n := range 15 {
			points = append(points, at((n%5-2)*scale, (n/5-1)*scale))
		}
		for _, a := range points {
			for _, b := range points {
				for _, c := range points {
					for _, d := range points {
						if meet := facet.Meet(a, b, c, d); meet != slowMeet(a, b, c, d) {
							t.Fatalf("Meet(%v, %v, %v, %v) = %v", a, b, c, d, meet)
						}
					}
				}
			}
		}
	}
}

func TestMeetOfManySegments(t *testing.T) {
	r := rand.New(rand.NewSource(3))
	met := 0
	for i := range 60000 {
		n := []int{3, 10, 3000, most}[i%4]
		a, b, c, d := somePoint(r, n), somePoint(r, n), somePoint(r, n), somePoint(r, n)
		meet := facet.Meet(a, b, c, d)
		if meet != slowMeet(a, b, c, d) {
			t.Fatalf("Meet(%v, %v, %v, %v) = %v", a, b, c, d, meet)
		}
		if meet {
			met++
		}
	}
	if met < 5000 || met > 55000 {
		t.Errorf("%d of 60000 met: the points are badly chosen", met)
	}
}
