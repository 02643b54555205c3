package facet_test

// What the calls ought to answer, by slow and different ways: straight from
// the document's words, with numbers that have no bound.

import (
	"math/big"

	"facet/api"
)

func number(n int) *big.Int { return big.NewInt(int64(n)) }

func times(a, b *big.Int) *big.Int { return new(big.Int).Mul(a, b) }

func less(a, b *big.Int) *big.Int { return new(big.Int).Sub(a, b) }

func and(a, b *big.Int) *big.Int { return new(big.Int).Add(a, b) }

func slowTurn(a, b, c api.Point) int {
	left := times(less(number(b.X), number(a.X)), less(number(c.Y), number(a.Y)))
	right := times(less(number(b.Y), number(a.Y)), less(number(c.X), number(a.X)))
	return left.Cmp(right)
}

// slowCircle takes the determinant by the rule of its first row, and that of
// the ones left over so, too.
func slowCircle(a, b, c, d api.Point) int {
	var rows [][]*big.Int
	for _, p := range []api.Point{a, b, c} {
		x, y := less(number(p.X), number(d.X)), less(number(p.Y), number(d.Y))
		rows = append(rows, []*big.Int{x, y, and(times(x, x), times(y, y))})
	}
	return determinant(rows).Sign()
}

func determinant(rows [][]*big.Int) *big.Int {
	if len(rows) == 1 {
		return rows[0][0]
	}
	sum := new(big.Int)
	for column, factor := range rows[0] {
		var rest [][]*big.Int
		for _, row := range rows[1:] {
			var short []*big.Int
			short = append(short, row[:column]...)
			rest = append(rest, append(short, row[column+1:]...))
		}
		part := times(factor, determinant(rest))
		if column%2 == 1 {
			part.Neg(part)
		}
		sum.Add(sum, part)
	}
	return sum
}

// slowMeet solves a + s (b - a) = c + t (d - c) and looks whether s and t are
// from 0 to 1; where that has not just one answer, a point that they share can
// only be an end of one of them.
func slowMeet(a, b, c, d api.Point) bool {
	ux, uy, vx, vy, wx, wy := b.X-a.X, b.Y-a.Y, d.X-c.X, d.Y-c.Y, c.X-a.X, c.Y-a.Y
	scale := vx*uy - vy*ux
	if scale == 0 {
		return slowOn(a, c, d) || slowOn(b, c, d) || slowOn(c, a, b) || slowOn(d, a, b)
	}
	s, t := vx*wy-vy*wx, ux*wy-uy*wx
	if scale < 0 {
		scale, s, t = -scale, -s, -t
	}
	return 0 <= s && s <= scale && 0 <= t && t <= scale
}

// slowOn tells whether p is on the segment a to b: there the ways from p to
// both ends are in opposite directions.
func slowOn(p, a, b api.Point) bool {
	ux, uy, vx, vy := a.X-p.X, a.Y-p.Y, b.X-p.X, b.Y-p.Y
	return ux*vy == uy*vx && ux*vx+uy*vy <= 0
}

// slowWithin goes along a ray that is flat enough to go through no vertex,
// where all coordinates are less than 100 from each other.
func slowWithin(p api.Point, r []api.Point) bool {
	far, crossings := at(p.X+100, p.Y+1), 0
	for i, a := range r {
		b := r[(i+1)%len(r)]
		if slowOn(p, a, b) {
			return false
		}
		if slowMeet(p, far, a, b) {
			crossings++
		}
	}
	return crossings%2 == 1
}

// slowCheck is for polygons of few points that are near to each other: of
// those it tells ErrTwice and what comes behind it.
func slowCheck(list rings) api.Errno {
	switch {
	case slowTwice(list):
		return api.ErrTwice
	case slowTouch(list):
		return api.ErrTouch
	}
	for _, hole := range list[1:] {
		for _, p := range hole {
			if !slowWithin(p, list[0]) {
				return api.ErrOutside
			}
		}
	}
	for i, hole := range list[1:] {
		for j, other := range list[1:] {
			if i != j && slowWithin(hole[len(hole)-1], other) {
				return api.ErrNested
			}
		}
	}
	return api.OK
}

func slowTwice(list rings) bool {
	for i, one := range list {
		for j, p := range one {
			for k, other := range list {
				for l, q := range other {
					if (i != k || j != l) && p == q {
						return true
					}
				}
			}
		}
	}
	return false
}

func slowTouch(list rings) bool {
	for i, one := range list {
		for j := range one {
			for k, other := range list {
				for l := range other {
					if (i != k || j != l) && slowShare(one, j, other, l, i == k) {
						return true
					}
				}
			}
		}
	}
	return false
}

// slowShare tells whether the edges that begin at these places of their rings
// share a point that they may not.
func slowShare(one []api.Point, j int, other []api.Point, l int, same bool) bool {
	a, b := one[j], one[(j+1)%len(one)]
	c, d := other[l], other[(l+1)%len(other)]
	switch {
	case same && (j+1)%len(one) == l:
		return sameWay(b, a, d)
	case same && (l+1)%len(one) == j:
		return sameWay(a, b, c)
	}
	return slowMeet(a, b, c, d)
}

// sameWay tells whether p and q are in the same direction from the corner.
func sameWay(corner, p, q api.Point) bool {
	ux, uy, vx, vy := p.X-corner.X, p.Y-corner.Y, q.X-corner.X, q.Y-corner.Y
	return ux*vy == uy*vx && ux*vx+uy*vy > 0
}

// slowArea counts the whole points within and on each ring, from which Pick's
// rule tells twice its area.
func slowArea(list rings, from, to int) int {
	area := 0
	for i, r := range list {
		within, on := 0, 0
		for x := from; x <= to; x++ {
			for y := from; y <= to; y++ {
				if slowWithin(at(x, y), r) {
					within++
				} else if onRing(at(x, y), r) {
					on++
				}
			}
		}
		twice := 2*within + on - 2
		if i > 0 {
			twice = -twice
		}
		area += twice
	}
	return area
}

func onRing(p api.Point, r []api.Point) bool {
	for i, a := range r {
		if slowOn(p, a, r[(i+1)%len(r)]) {
			return true
		}
	}
	return false
}
