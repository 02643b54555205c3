package facet_test

// Polygons to be cut.

import (
	"math/rand"
	"slices"

	"facet/api"
	"facet/facet"
)

type drawing struct {
	why  string
	list rings
}

// drawings has for each edge that the document names a polygon or some.
func drawings() []drawing {
	return slices.Concat(plainDrawings(), farDrawings(), lineDrawings(), circleDrawings(), holeDrawings())
}

func plainDrawings() []drawing {
	return []drawing{
		{"three points", rings{ring(0, 0, 3, 0, 0, 3)}},
		{"three points, thin", rings{ring(0, 0, 1, 0, most, 1)}},
		{"a square", rings{square(0, 0, 4)}},
		{"the kite", rings{ring(0, 0, 3, -1, 9, 0, 3, 1)}},
		{"a dart", rings{ring(0, 0, 8, 0, 4, 2, 4, 9)}},
		{"a spiral", rings{ring(0, 0, 9, 0, 9, 9, 1, 9, 1, 2, 7, 2, 7, 7, 3, 7, 3, 4, 5, 4, 5, 5, 4, 5, 4, 6, 6, 6, 6, 3, 2, 3, 2, 8, 8, 8, 8, 1, 0, 1)}},
		{"a comb", rings{comb(15)}},
		{"as many points as can be", rings{bow(64)}},
		{"a dented ring of as many points as can be", rings{sawblade(64, 1000)}},
	}
}

func farDrawings() []drawing {
	return []drawing{
		{"as far as can be", rings{square(-most, -most, 2*most)}},
		{"as far, a thin one", rings{ring(-most, -most, most, most-1, most, most)}},
		{"as far, with a hole nearly so", rings{square(-most, -most, 2*most), square(1-most, 1-most, 2*most-2)}},
		{"as far, with a tiny hole", rings{square(-most, -most, 2*most), ring(0, 0, 1, 0, 0, 1)}},
		{"as far, with a tiny hole in a corner", rings{square(-most, -most, 2*most), ring(most-1, most-1, most-2, most-1, most-1, most-2)}},
		{"as far, dented", rings{sawblade(64, most)}},
		{"as far, thin and bent", rings{ring(-most, -most, 0, 0, most, -most, most, 1-most, 0, 1, -most, 1-most)}},
	}
}

func lineDrawings() []drawing {
	return []drawing{
		{"a triangle with points on its sides", rings{ring(0, 0, 2, 0, 3, 0, 6, 0, 4, 2, 0, 6, 0, 5)}},
		{"a field", rings{field(0, 0, 16, 16)}},
		{"a field in a field", rings{field(0, 0, 8, 8), field(2, 2, 4, 4)}},
		{"edges on one line, apart", rings{ring(0, 0, 2, 0, 2, 3, 4, 3, 4, 0, 6, 0, 6, 6, 0, 6)}},
		{"holes in a row", rings{square(0, 0, 20), square(2, 2, 2), square(6, 2, 2), square(10, 2, 2), square(14, 2, 2)}},
		{"all of a triangle's points but one on a line", rings{append(field(0, 0, 60, 1)[:61], at(30, 7))}},
	}
}

func circleDrawings() []drawing {
	return []drawing{
		{"twelve on a circle", rings{round(0, 0, 25)}},
		{"48 on a circle", rings{round(0, 0, 5525)}},
		{"circle in circle", rings{round(0, 0, 5525), round(0, 0, 25)}},
		{"circles around other middles", rings{round(0, 0, 1105), round(-12, 3, 25), round(13, -5, 25)}},
		{"a square with holes that are squares", rings{square(0, 0, 9), square(1, 1, 3), square(5, 1, 3), square(1, 5, 3), square(5, 5, 3)}},
		{"a circle with a dent", rings{append(round(0, 0, 5525)[:40], at(0, 0))}},
	}
}

func holeDrawings() []drawing {
	eight := rings{sawblade(8, 1000)}
	for i := range 7 {
		eight = append(eight, moved(sawblade(8, 20), 42*i-126, 3*i))
	}
	return []drawing{
		{"a square with a hole", rings{square(0, 0, 4), ring(1, 1, 1, 2, 2, 1)}},
		{"a triangle in a triangle", rings{ring(0, 0, 9, 0, 0, 9), ring(1, 1, 2, 1, 1, 2)}},
		{"a large hole", rings{square(0, 0, 9), square(1, 1, 7)}},
		{"all holes there can be", holed(7)},
		{"all holes and points there can be", eight},
		{"holes side by side", rings{square(0, 0, 90), square(1, 1, 44), square(46, 1, 43), ring(1, 46, 89, 46, 89, 89, 1, 89)}},
		{"a hole in a hole's dent", rings{square(0, 0, 90), ring(10, 10, 70, 10, 70, 70, 40, 20, 10, 70), square(39, 60, 2)}},
		{"a hole deep in a hole's dent", rings{square(0, 0, 90), ring(10, 10, 70, 10, 70, 70, 40, 20, 10, 70), ring(40, 21, 39, 30, 41, 30)}},
		{"holes in a narrow way", rings{ring(0, 0, 400, 0, 400, 3, 0, 3), ring(1, 1, 2, 2, 3, 1), ring(199, 2, 200, 1, 201, 2), ring(398, 1, 399, 1, 399, 2)}},
		{"a hole at the tip", rings{ring(0, 0, 900, 1, 900, 40), ring(890, 20, 899, 2, 899, 20)}},
	}
}

// comb makes a ring with so many teeth.
func comb(teeth int) []api.Point {
	points := ring(2*teeth, 0, 0, 0)
	for i := range teeth {
		points = append(points, at(2*i, 9), at(2*i+1, 1))
	}
	return points
}

// sawblade makes a ring of n points whose distances from the middle are size,
// and less than half of it, in turn.
func sawblade(n, size int) []api.Point {
	var points []api.Point
	for i, p := range evenly(n) {
		far := size
		if i%2 == 1 {
			far = size*2/5 + i%3
		}
		points = append(points, at(p.X*far/most, p.Y*far/most))
	}
	return points
}

// evenly makes n points on a square around the middle, at most from it.
func evenly(n int) []api.Point {
	var points []api.Point
	for i := range n {
		along := 8 * most * i / n
		side, rest := along/(2*most), along%(2*most)
		corner := []api.Point{at(-most, -most), at(most, -most), at(most, most), at(-most, most)}[side]
		way := []api.Point{at(1, 0), at(0, 1), at(-1, 0), at(0, -1)}[side]
		points = append(points, at(corner.X+way.X*rest, corner.Y+way.Y*rest))
	}
	return points
}

// field makes a ring of all whole points around a rectangle.
func field(x, y, wide, high int) []api.Point {
	var points []api.Point
	for i := range wide {
		points = append(points, at(x+i, y))
	}
	for i := range high {
		points = append(points, at(x+wide, y+i))
	}
	for i := range wide {
		points = append(points, at(x+wide-i, y+high))
	}
	for i := range high {
		points = append(points, at(x, y+high-i))
	}
	return points
}

// round makes a ring of all whole points on a circle, by the square of its
// radius, from the one that is lowest.
func round(x, y, square int) []api.Point {
	var right, left []api.Point
	for dy := -square; dy <= square; dy++ {
		for dx := -75; dx <= 75; dx++ {
			if dx*dx+dy*dy == square && (dx > 0 || dx == 0 && dy < 0) {
				right = append(right, at(x+dx, y+dy))
				left = append(left, at(x-dx, y-dy))
			}
		}
	}
	return append(right, left...)
}

func moved(r []api.Point, x, y int) []api.Point {
	var points []api.Point
	for _, p := range r {
		points = append(points, at(p.X+x, p.Y+y))
	}
	return points
}

// otherWays makes the same polygon with its rings the other way round: all,
// the outer one, or the holes.
func otherWays(list rings) []rings {
	all, outer, holes := copyOf(list), copyOf(list), copyOf(list)
	slices.Reverse(outer[0])
	slices.Reverse(all[0])
	for i := range list[1:] {
		slices.Reverse(all[i+1])
		slices.Reverse(holes[i+1])
	}
	return []rings{list, all, outer, holes}
}

// grown makes a valid polygon by chance: from a triangle, by new points and
// new holes at which it stays valid.
func grown(r *rand.Rand) rings {
	wide := []int{3, 5, 8, 12, 40, 1000, most}[r.Intn(7)]
	list := rings{{somePoint(r, wide), somePoint(r, wide), somePoint(r, wide)}}
	for facet.Check(list) != api.OK {
		list[0][r.Intn(3)] = somePoint(r, wide)
	}
	for range r.Intn(1 + r.Intn(200)) {
		next := withPoint(r, list, wide)
		if r.Intn(4) == 0 {
			next = withHole(r, list, wide)
		}
		if facet.Check(next) == api.OK {
			list = next
		}
	}
	return list
}

func withPoint(r *rand.Rand, list rings, wide int) rings {
	next := copyOf(list)
	i := r.Intn(len(next))
	j := r.Intn(len(next[i]) + 1)
	p := somePoint(r, wide)
	if r.Intn(2) == 0 {
		near := next[i][j%len(next[i])]
		step := somePoint(r, max(2, wide/4))
		p = at(near.X+step.X, near.Y+step.Y)
	}
	next[i] = slices.Insert(next[i], j, p)
	return next
}

func withHole(r *rand.Rand, list rings, wide int) rings {
	middle, size := somePoint(r, wide), max(2, wide/(1+r.Intn(9)))
	var hole []api.Point
	for range 3 {
		hole = append(hole, somePoint(r, size))
	}
	return append(copyOf(list), moved(hole, middle.X, middle.Y))
}
