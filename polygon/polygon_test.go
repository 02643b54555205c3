package polygon

import (
	"slices"
	"testing"

	"facet/api"
)

var triangle = []api.Point{{X: 1, Y: 1}, {X: 2, Y: 1}, {X: 1, Y: 2}}

func house() Polygon {
	return Polygon{{{X: 0, Y: 0}, {X: 9, Y: 0}, {X: 9, Y: 9}, {X: 0, Y: 9}}, slices.Clone(triangle)}
}

func TestVerticesAndEdgesAreNumberedRingByRing(t *testing.T) {
	p := house()
	if v := p.Vertices(); !slices.Equal(v, slices.Concat(p[0], triangle)) {
		t.Errorf("vertices %v", v)
	}
	want := []Edge{{0, 1}, {1, 2}, {2, 3}, {3, 0}, {4, 5}, {5, 6}, {6, 4}}
	if e := p.Edges(); !slices.Equal(e, want) {
		t.Errorf("edges %v, want %v", e, want)
	}
}

func TestBorderHasTheInsideToTheLeft(t *testing.T) {
	left := Polygon{house()[0], {triangle[0], triangle[2], triangle[1]}}
	right := Polygon{slices.Clone(left[0]), slices.Clone(left[1])}
	slices.Reverse(right[0])
	slices.Reverse(right[1])
	for _, c := range []struct {
		p    Polygon
		want []Edge
	}{
		{left, []Edge{{0, 1}, {1, 2}, {2, 3}, {3, 0}, {4, 5}, {5, 6}, {6, 4}}},
		{right, []Edge{{1, 0}, {2, 1}, {3, 2}, {0, 3}, {5, 4}, {6, 5}, {4, 6}}},
		{Polygon{left[0], right[1]}, []Edge{{0, 1}, {1, 2}, {2, 3}, {3, 0}, {5, 4}, {6, 5}, {4, 6}}},
		{Polygon{right[0], left[1]}, []Edge{{1, 0}, {2, 1}, {3, 2}, {0, 3}, {4, 5}, {5, 6}, {6, 4}}},
	} {
		if got := c.p.Border(); !slices.Equal(got, c.want) {
			t.Errorf("%v: %v, want %v", c.p, got, c.want)
		}
	}
}

func TestVerticesAreNewMemory(t *testing.T) {
	p := house()[1:]
	v := p.Vertices()
	v[0] = api.Point{X: 77}
	_ = append(v, api.Point{X: 78})
	if !slices.Equal(p[0], triangle) {
		t.Errorf("the ring became %v", p[0])
	}
}

// TestTableOfTests: the table names each test once, and its errors come in the
// order of their numbers, as the document's do.
func TestTableOfTests(t *testing.T) {
	names := map[string]int{}
	for i, one := range tests() {
		names[one.name]++
		if one.fault != api.ErrRings+api.Errno(i) {
			t.Errorf("test %d, %q, tells %d", i, one.name, one.fault)
		}
	}
	if len(names) != int(api.ErrNested) {
		t.Errorf("%d names: %v", len(names), names)
	}
}

func TestEachTestAlone(t *testing.T) {
	far := house()
	far[1][0].X = api.MaxCoord + 1
	twice := house()
	twice[1][0] = twice[0][2]
	touch := house()
	touch[1][0].X = 0
	outside := house()
	for i := range outside[1] {
		outside[1][i].X += 20
	}
	nested := append(house(), []api.Point{{X: 0, Y: -1}, {X: 8, Y: 0}, {X: 0, Y: 8}})
	for i, p := range []Polygon{{}, {triangle[:2]}, far, twice, touch, outside, nested} {
		one := tests()[i]
		if one.passes(p) {
			t.Errorf("%q: %v passes", one.name, p)
		}
		if !one.passes(house()) {
			t.Errorf("%q: a valid polygon does not pass", one.name)
		}
	}
}

func TestInBounds(t *testing.T) {
	for _, n := range []int{-api.MaxCoord, -1, 0, 1, api.MaxCoord} {
		if !InBounds(api.Point{X: n}) || !InBounds(api.Point{Y: n}) {
			t.Errorf("%d is not in its bounds", n)
		}
	}
	for _, n := range []int{-1 << 63, -api.MaxCoord - 1, api.MaxCoord + 1, 1<<63 - 1} {
		if InBounds(api.Point{X: n}) || InBounds(api.Point{Y: n}) || InBounds(api.Point{X: n, Y: n}) {
			t.Errorf("%d is in its bounds", n)
		}
	}
}

func TestWithin(t *testing.T) {
	ring := []api.Point{{X: 0, Y: 0}, {X: 4, Y: 4}, {X: 8, Y: 0}, {X: 8, Y: 8}, {X: 4, Y: 6}, {X: 0, Y: 8}}
	for _, c := range []struct {
		x, y int
		want bool
	}{
		{4, 5, true}, {1, 4, true}, {7, 4, true}, {2, 6, true}, {1, 2, true},
		{4, 4, false}, {2, 2, false}, {0, 5, false}, {8, 8, false}, {0, 0, false},
		{4, 3, false}, {4, 7, false}, {-1, 0, false}, {-1, 4, false}, {-1, 8, false}, {9, 4, false}, {4, 0, false}, {4, 8, false},
	} {
		if got := within(api.Point{X: c.x, Y: c.y}, ring); got != c.want {
			t.Errorf("(%d, %d) within: %v", c.x, c.y, got)
		}
	}
}
