package facet_test

import (
	"math/rand"

	"facet/api"
)

const most = api.MaxCoord

// rings is short for what Check and Area take.
type rings = [][]api.Point

func at(x, y int) api.Point { return api.Point{X: x, Y: y} }

// ring makes a ring of coordinates, x and y in turn.
func ring(coordinates ...int) []api.Point {
	var points []api.Point
	for i := 0; i < len(coordinates); i += 2 {
		points = append(points, at(coordinates[i], coordinates[i+1]))
	}
	return points
}

// square makes a square by its least corner and its side.
func square(x, y, side int) []api.Point {
	return ring(x, y, x+side, y, x+side, y+side, x, y+side)
}

// bow makes a valid ring of n points on a parabola.
func bow(n int) []api.Point {
	var points []api.Point
	for i := range n {
		points = append(points, at(i, i*i))
	}
	return points
}

// holed makes a large square with so many small holes.
func holed(holes int) rings {
	all := rings{square(0, 0, 100)}
	for i := range holes {
		all = append(all, square(1+3*i, 1+i, 2))
	}
	return all
}

func copyOf(list rings) rings {
	var all rings
	for _, r := range list {
		all = append(all, append([]api.Point(nil), r...))
	}
	return all
}

// somePoint makes a point of coordinates from -n to n.
func somePoint(r *rand.Rand, n int) api.Point {
	return at(r.Intn(2*n+1)-n, r.Intn(2*n+1)-n)
}
