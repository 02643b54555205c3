package facet_test

import (
	"math/rand"
	"testing"

	"facet/api"
	"facet/facet"
)

func TestTurn(t *testing.T) {
	for _, c := range []struct {
		a, b, c api.Point
		want    int
	}{
		{at(0, 0), at(1, 0), at(0, 1), 1}, {at(0, 0), at(0, 1), at(1, 0), -1},
		{at(0, 0), at(2, 2), at(5, 5), 0}, {at(0, 0), at(2, 2), at(-3, -3), 0}, {at(3, 1), at(6, 2), at(9, 3), 0},
		{at(5, 5), at(5, 5), at(1, 2), 0}, {at(5, 5), at(1, 2), at(5, 5), 0}, {at(5, 5), at(5, 5), at(5, 5), 0},
		{at(-most, -most), at(most, most), at(0, 0), 0}, {at(-most, -most), at(most, most), at(0, 1), 1},
		{at(-most, -most), at(most, most-1), at(most-1, most-2), -1}, {at(-most, -most), at(most, -most), at(-most, most), 1},
		{at(-most, most), at(most, most), at(most, -most), -1},
	} {
		if n := facet.Turn(c.a, c.b, c.c); n != c.want {
			t.Errorf("Turn(%v, %v, %v) = %d, want %d", c.a, c.b, c.c, n, c.want)
		}
	}
}

// TestTurnAtTheBounds goes through all points whose coordinates are at a bound,
// beside one, or in the middle.
func TestTurnAtTheBounds(t *testing.T) {
	var points []api.Point
	for _, x := range []int{-most, 1 - most, 0, most - 1, most} {
		for _, y := range []int{-most, 1 - most, 0, most - 1, most} {
			points = append(points, at(x, y))
		}
	}
	for _, a := range points {
		for _, b := range points {
			for _, c := range points {
				if n, want := facet.Turn(a, b, c), slowTurn(a, b, c); n != want {
					t.Fatalf("Turn(%v, %v, %v) = %d, want %d", a, b, c, n, want)
				}
			}
		}
	}
}

func TestCircle(t *testing.T) {
	for _, c := range []struct {
		a, b, c, d api.Point
		want       int
	}{
		{at(0, 0), at(1, 0), at(0, 1), at(1, 1), 0}, {at(0, 0), at(1, 0), at(0, 1), at(2, 2), -1}, {at(0, 0), at(1, 0), at(0, 1), at(1, 0), 0},
		{at(0, 0), at(4, 0), at(0, 4), at(1, 1), 1}, {at(0, 0), at(0, 4), at(4, 0), at(1, 1), -1}, {at(0, 0), at(0, 4), at(4, 0), at(5, 5), 1},
		{at(0, 0), at(1, 0), at(2, 0), at(3, 0), 0}, {at(0, 0), at(1, 0), at(2, 0), at(0, 1), 1}, {at(0, 0), at(1, 0), at(2, 0), at(0, -1), -1},
		{at(0, 0), at(0, 0), at(2, 0), at(1, 1), 0}, {at(7, 7), at(7, 7), at(7, 7), at(7, 7), 0},
	} {
		if n := facet.Circle(c.a, c.b, c.c, c.d); n != c.want {
			t.Errorf("Circle(%v, %v, %v, %v) = %d, want %d", c.a, c.b, c.c, c.d, n, c.want)
		}
	}
}

// TestCircleByAHair has a circle that reaches the bounds, and points one step
// off it: there the determinant is small beside its parts.
func TestCircleByAHair(t *testing.T) {
	const k = most / 4
	on := []api.Point{at(4*k, 3*k), at(3*k, 4*k), at(-3*k, 4*k), at(-4*k, 3*k), at(-4*k, -3*k), at(-3*k, -4*k), at(3*k, -4*k), at(4*k, -3*k)}
	for i, d := range on {
		a, b, c := on[(i+1)%8], on[(i+3)%8], on[(i+6)%8]
		in := at(d.X-sign(d.X), d.Y)
		beyond := at(d.X+sign(d.X), d.Y)
		if d.X == most || d.X == -most {
			beyond = at(d.X, d.Y+sign(d.Y))
		}
		for _, q := range []struct {
			d    api.Point
			want int
		}{{d, 0}, {in, 1}, {beyond, -1}} {
			if n := facet.Circle(a, b, c, q.d); n != q.want {
				t.Errorf("Circle(%v, %v, %v, %v) = %d, want %d", a, b, c, q.d, n, q.want)
			}
			if n := facet.Circle(b, a, c, q.d); n != -q.want {
				t.Errorf("Circle(%v, %v, %v, %v) = %d, want %d", b, a, c, q.d, n, -q.want)
			}
		}
	}
}

func sign(n int) int {
	if n < 0 {
		return -1
	}
	return 1
}

func TestTurnAndCircleOfManyPoints(t *testing.T) {
	r := rand.New(rand.NewSource(2))
	bounds := []int{-most, 1 - most, -1, 0, 1, most - 1, most}
	for i := range 40000 {
		var q [4]api.Point
		for j := range q {
			q[j] = somePoint(r, []int{2, 50, 40000, most}[i%4])
			if i%8 == 3 {
				q[j] = at(bounds[r.Intn(len(bounds))], bounds[r.Intn(len(bounds))])
			}
		}
		if n, want := facet.Turn(q[0], q[1], q[2]), slowTurn(q[0], q[1], q[2]); n != want {
			t.Fatalf("Turn(%v) = %d, want %d", q[:3], n, want)
		}
		if n, want := facet.Circle(q[0], q[1], q[2], q[3]), slowCircle(q[0], q[1], q[2], q[3]); n != want {
			t.Fatalf("Circle(%v) = %d, want %d", q, n, want)
		}
	}
}
