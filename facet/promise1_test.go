package facet_test

import (
	"math"
	"math/rand"
	"reflect"
	"slices"
	"testing"

	"facet/api"
	"facet/facet"
)

// wild are numbers with which sums and products run over.
var wild = []int{math.MinInt, math.MinInt + 1, -1 << 32, -most - 1, -most, -1, 0, 1, most, most + 1, 1 << 31, 1 << 62, math.MaxInt}

func wildPoint(r *rand.Rand) api.Point {
	return at(wild[r.Intn(len(wild))], wild[r.Intn(len(wild))])
}

func TestPointsFarOutEnd(t *testing.T) {
	r := rand.New(rand.NewSource(11))
	for range 20000 {
		a, b, c, d := wildPoint(r), wildPoint(r), wildPoint(r), wildPoint(r)
		if n := facet.Turn(a, b, c); n < -1 || n > 1 {
			t.Fatalf("Turn(%v, %v, %v) = %d is no sign", a, b, c, n)
		}
		if n := facet.Circle(a, b, c, d); n < -1 || n > 1 {
			t.Fatalf("Circle(%v, %v, %v, %v) = %d is no sign", a, b, c, d, n)
		}
		facet.Meet(a, b, c, d)
	}
}

func TestListsOfAllKindsEnd(t *testing.T) {
	r := rand.New(rand.NewSource(12))
	for range 20000 {
		list := make(rings, r.Intn(api.MaxRings+2))
		for i := range list {
			for range r.Intn(12) {
				list[i] = append(list[i], wildPoint(r))
			}
		}
		fault := facet.Check(list)
		area, same := facet.Area(list)
		if fault < api.OK || fault > api.ErrNested || same != fault {
			t.Fatalf("%v: Check %d, Area's error %d", list, fault, same)
		}
		if fault != api.OK && area != 0 {
			t.Fatalf("%v: area %d beside the error %d", list, area, fault)
		}
		if m, same := facet.New(list); same != fault || (m != nil) != (fault == api.OK) {
			t.Fatalf("%v: Check %d, New %v, %d", list, fault, m, same)
		}
	}
}

func TestLongRingsEnd(t *testing.T) {
	long := make([]api.Point, 1<<20)
	list := rings{long, long, long, long, long, long, long, long}
	if fault := facet.Check(list); fault != api.ErrRange {
		t.Errorf("long rings: Check %d", fault)
	}
	if m, fault := facet.New(list); m != nil || fault != api.ErrRange {
		t.Errorf("long rings: New %v, %d", m, fault)
	}
}

// TestSeveralErrors has for each two errors that can apply at once an input
// where they do.
func TestSeveralErrors(t *testing.T) {
	short, out, crossed := ring(0, 0, 1, 1), ring(0, 0, most+1, 0, 0, 1), ring(0, 0, 4, 4, 4, 0, 0, 4)
	nine := func(r []api.Point) rings { return rings{r, r, r, r, r, r, r, r, r} }
	for _, c := range []struct {
		why   string
		list  rings
		fault api.Errno
	}{
		{"rings and short", nine(short), api.ErrRings},
		{"rings and short, of nothing", nine(nil), api.ErrRings},
		{"rings and range, far out", nine(out), api.ErrRings},
		{"rings and range, many", nine(bow(64)), api.ErrRings},
		{"rings and twice", nine(square(0, 0, 4)), api.ErrRings},
		{"rings and touch", nine(crossed), api.ErrRings},
		{"short and range, far out", rings{out, short}, api.ErrShort},
		{"short and range, many", rings{bow(65), short}, api.ErrShort},
		{"short and range in one ring", rings{ring(most+1, 0, 0, 0)}, api.ErrShort},
		{"short and twice", rings{ring(1, 1, 1, 1)}, api.ErrShort},
		{"short and touch", rings{crossed, short}, api.ErrShort},
		{"short and outside", rings{square(0, 0, 4), square(9, 9, 4), short}, api.ErrShort},
		{"range and twice, far out", rings{ring(most+1, 0, 0, 5, most+1, 0)}, api.ErrRange},
		{"range and twice, many", rings{bow(64), bow(3)}, api.ErrRange},
		{"range and touch", rings{crossed, ring(20, 20, most+1, 20, 20, 21)}, api.ErrRange},
		{"range and outside", rings{square(0, 0, 4), ring(20, 20, most+1, 20, 20, 21)}, api.ErrRange},
		{"range and nested", rings{square(0, 0, most+1), square(1, 1, 50), square(2, 2, 5)}, api.ErrRange},
		{"twice and touch", rings{crossed, ring(4, 4, 9, 4, 9, 9)}, api.ErrTwice},
		{"twice and outside", rings{square(0, 0, 4), square(4, 4, 4)}, api.ErrTwice},
		{"twice and nested", rings{square(0, 0, 40), square(1, 1, 20), square(1, 1, 20)}, api.ErrTwice},
		{"touch and outside", rings{crossed, square(9, 9, 4)}, api.ErrTouch},
		{"touch and outside, in another hole", rings{square(0, 0, 4), square(9, 9, 4), ring(2, 2, 6, 2, 2, 3)}, api.ErrTouch},
		{"touch and nested", rings{square(0, 0, 90), square(1, 1, 50), square(2, 2, 5), ring(60, 60, 64, 60, 62, 60)}, api.ErrTouch},
		{"outside and nested", rings{square(0, 0, 4), square(10, 10, 20), square(11, 11, 2)}, api.ErrOutside},
		{"outside and nested, apart", rings{square(0, 0, 40), square(1, 1, 20), square(2, 2, 2), square(50, 50, 2)}, api.ErrOutside},
	} {
		if fault := facet.Check(c.list); fault != c.fault {
			t.Errorf("%s: Check %d, want %d", c.why, fault, c.fault)
		}
		if area, fault := facet.Area(c.list); area != 0 || fault != c.fault {
			t.Errorf("%s: Area %d, %d, want 0, %d", c.why, area, fault, c.fault)
		}
		if m, fault := facet.New(c.list); m != nil || fault != c.fault {
			t.Errorf("%s: New %v, %d, want nil, %d", c.why, m, fault, c.fault)
		}
	}
}

// roomy makes a polygon with spare room behind each list that is full of
// something.
func roomy(list rings) rings {
	all := make(rings, 0, len(list)+3)
	for _, r := range append(copyOf(list), ring(7, 7, 8, 8), nil, ring(9, 9)) {
		wide := append(append([]api.Point(nil), r...), ring(-1, -2, -3, -4, -5, -6)...)
		all = append(all, wide[:len(r)])
	}
	return all[:len(list)]
}

// whole tells all that a polygon's lists hold, spare room too.
func whole(list rings) rings {
	var all rings
	for _, r := range list[:cap(list)] {
		all = append(all, append([]api.Point(nil), r[:cap(r)]...))
	}
	return all
}

func TestListsStayAsTheyAre(t *testing.T) {
	for _, list := range []rings{
		{square(0, 0, 4)}, {ring(0, 4, 4, 4, 4, 0, 0, 0)}, holed(1), holed(7), {bow(64)},
		{}, {{}}, {bow(65)}, {square(0, 0, 4), square(0, 0, 4)}, {ring(0, 0, 4, 0, 2, 0)},
		{square(0, 0, 4), square(9, 9, 4)}, {square(0, 0, 40), square(1, 1, 20), square(2, 2, 2)},
	} {
		given := roomy(list)
		before := whole(given)
		facet.Check(given)
		facet.Area(given)
		if m, _ := facet.New(given); m != nil {
			answersOf(m, list)
		}
		if after := whole(given); !reflect.DeepEqual(before, after) {
			t.Errorf("%v became %v", before, after)
		}
	}
}

// TestSpareRoomSaysNothing: an answer hangs on a list, not on what lies behind it.
func TestSpareRoomSaysNothing(t *testing.T) {
	for _, list := range []rings{{square(0, 0, 4)}, holed(3), {ring(0, 0, 4, 0, 2, 0)}, {}} {
		area, fault := facet.Area(list)
		if a, f := facet.Area(roomy(list)); a != area || f != fault {
			t.Errorf("%v: with spare room Area %d, %d, else %d, %d", list, a, f, area, fault)
		}
	}
	for _, d := range drawings() {
		a, b := meshOf(t, d.list), meshOf(t, roomy(d.list))
		if !reflect.DeepEqual(answersOf(a, d.list), answersOf(b, d.list)) {
			t.Errorf("%s: with spare room other answers come", d.why)
		}
	}
}

func TestListsAreNotKept(t *testing.T) {
	list := rings{square(0, 0, 10), square(1, 1, 2)}
	for _, c := range []struct {
		corner, area int
		fault        api.Errno
	}{{10, 192, api.OK}, {20, 392, api.OK}, {0, 0, api.ErrTwice}, {1, 0, api.ErrTwice}, {10, 192, api.OK}, {2, 0, api.ErrTouch}} {
		list[0][2] = at(c.corner, c.corner)
		if fault := facet.Check(list); fault != c.fault {
			t.Errorf("corner at %d: Check %d, want %d", c.corner, fault, c.fault)
		}
		if area, fault := facet.Area(list); area != c.area || fault != c.fault {
			t.Errorf("corner at %d: Area %d, %d, want %d, %d", c.corner, area, fault, c.area, c.fault)
		}
	}
}

func TestNilIsAnEmptyList(t *testing.T) {
	for _, c := range []struct {
		list  rings
		fault api.Errno
	}{
		{nil, api.ErrRings}, {rings{}, api.ErrRings},
		{rings{nil}, api.ErrShort}, {rings{{}}, api.ErrShort},
		{rings{square(0, 0, 4), nil}, api.ErrShort}, {rings{square(0, 0, 4), {}}, api.ErrShort},
	} {
		if area, fault := facet.Area(c.list); area != 0 || fault != c.fault || facet.Check(c.list) != c.fault {
			t.Errorf("%#v: Area %d, %d, want 0, %d", c.list, area, fault, c.fault)
		}
		if m, fault := facet.New(c.list); m != nil || fault != c.fault {
			t.Errorf("%#v: New %v, %d, want nil, %d", c.list, m, fault, c.fault)
		}
	}
}

// answers are all that a mesh tells, of numbers and points of all kinds.
type answers struct {
	triangles []api.Triangle
	beside    []api.Triangle
	faults    []api.Errno
	places    []int
}

func answersOf(m *facet.Mesh, list rings) answers {
	all := answers{triangles: m.Triangles()}
	for n := -2; n < len(all.triangles)+2; n++ {
		beside, fault := m.Beside(n)
		all.beside = append(all.beside, beside)
		all.faults = append(all.faults, fault)
	}
	for _, p := range nearPoints(list) {
		all.places = append(all.places, m.Locate(p))
	}
	return all
}

// TestMeshKeepsNoList: what the caller writes into the rings, or into triangles
// that came out, and into the room behind them, is not seen in the mesh.
func TestMeshKeepsNoList(t *testing.T) {
	for _, list := range []rings{{square(0, 0, 4)}, {ring(0, 0, 3, -1, 9, 0, 3, 1)}, {bow(64)}, holed(7)} {
		given := roomy(list)
		m := meshOf(t, given)
		want := answersOf(meshOf(t, list), list)
		for _, one := range given[:cap(given)] {
			for i := range one[:cap(one)] {
				one[:cap(one)][i] = at(1, 1)
			}
		}
		clear(given[:cap(given)])
		for range 3 {
			if got := answersOf(m, list); !reflect.DeepEqual(got, want) {
				t.Fatalf("%v: the answers %v became %v", list, want, got)
			}
			out := m.Triangles()
			out = out[:cap(out)]
			for i := range out {
				out[i] = api.Triangle{-7, -8, -9}
			}
		}
	}
}

// TestListsThatComeOutAreApart: two of them share no memory, not even the room
// behind them.
func TestListsThatComeOutAreApart(t *testing.T) {
	m := meshOf(t, holed(3))
	one, other := m.Triangles(), m.Triangles()
	want := slices.Clone(other)
	for i := range one[:cap(one)] {
		one[:cap(one)][i] = api.Triangle{-1, -1, -1}
	}
	if !slices.Equal(other, want) {
		t.Errorf("the triangles %v became %v", want, other)
	}
	_ = append(one, api.Triangle{5, 5, 5})
	if long := append(other, api.Triangle{6, 6, 6}); !slices.Equal(long[:len(want)], want) || !slices.Equal(m.Triangles(), want) {
		t.Errorf("the triangles %v became %v and %v", want, long, m.Triangles())
	}
}

// TestMeshesAreApart: one mesh is not changed by the making of another.
func TestMeshesAreApart(t *testing.T) {
	var meshes []*facet.Mesh
	for _, d := range drawings() {
		meshes = append(meshes, meshOf(t, d.list))
	}
	for i, d := range drawings() {
		got, want := answersOf(meshes[i], d.list), answersOf(meshOf(t, d.list), d.list)
		if !reflect.DeepEqual(got, want) {
			t.Errorf("%s: %v, but alone %v", d.why, got, want)
		}
	}
}

// TestSameAnswerAgain: where several meshes are right, the same one always
// comes; and a mesh always answers the same.
func TestSameAnswerAgain(t *testing.T) {
	for _, d := range drawings() {
		first := meshOf(t, d.list)
		want := answersOf(first, d.list)
		if again := answersOf(first, d.list); !reflect.DeepEqual(again, want) {
			t.Fatalf("%s: %v, and then %v", d.why, want, again)
		}
		for range 10 {
			if got := answersOf(meshOf(t, d.list), d.list); !reflect.DeepEqual(got, want) {
				t.Fatalf("%s: %v, and then %v", d.why, want, got)
			}
		}
	}
}

// TestMeshesAreAskedAllNumbers: no number and no point brings a mesh down, and
// beside an error there is nothing.
func TestMeshesAreAskedAllNumbers(t *testing.T) {
	r := rand.New(rand.NewSource(13))
	for _, d := range drawings() {
		m := meshOf(t, d.list)
		count := len(m.Triangles())
		for range 500 {
			if n := m.Locate(wildPoint(r)); n < -1 || n >= count {
				t.Fatalf("%s: Locate tells %d of %d", d.why, n, count)
			}
			n := wild[r.Intn(len(wild))]
			if beside, fault := m.Beside(n); (fault == api.OK) != (0 <= n && n < count) || fault != api.OK && beside != (api.Triangle{}) {
				t.Fatalf("%s: Beside(%d) = %v, %d, of %d", d.why, n, beside, fault, count)
			}
		}
	}
}
