package box

import "gangsaw/api"

// grid divides space at the sides of boxes: between two neighbouring sides, every box is the same all along.
type grid struct {
	sides [3][]int  // by axis: the coordinates of the sides, increasing
	list  []api.Box // by the X of Min
}

// newGrid returns the grid of a list. It is divided at the sides of the others, too.
func newGrid(list []api.Box, others ...api.Box) grid {
	var g grid
	for _, b := range list {
		g.divide(b)
		g.add(b)
	}
	for _, b := range others {
		g.divide(b)
	}
	return g
}

func (g *grid) divide(b api.Box) {
	for _, corner := range [2]api.Vec{b.Min, b.Max} {
		for axis, n := range numbers(corner) {
			g.sides[axis] = insert(g.sides[axis], n)
		}
	}
}

func (g *grid) add(b api.Box) {
	at := len(g.list)
	for at > 0 && g.list[at-1].Min.X > b.Min.X {
		at--
	}
	g.list = append(g.list, b)
	copy(g.list[at+1:], g.list[at:])
	g.list[at] = b
}

// insert puts a number into an increasing list, unless the list has it.
func insert(list []int, n int) []int {
	at := len(list)
	for at > 0 && list[at-1] > n {
		at--
	}
	if at > 0 && list[at-1] == n {
		return list
	}
	list = append(list, n)
	copy(list[at+1:], list[at:])
	list[at] = n
	return list
}

// runs divides the bounds of the grid into boxes that are covered by the list, or not covered, as a whole.
// It calls visit for each of them, by z, then y, then x, until visit returns false.
func (g grid) runs(visit func(run api.Box, covered bool) bool) {
	if len(g.sides[api.AxisX]) == 0 {
		return
	}
	ys, zs := g.sides[api.AxisY], g.sides[api.AxisZ]
	for z := range len(zs) - 1 {
		layer := crossing(g.list, zs[z])
		for y := range len(ys) - 1 {
			row := api.Box{Min: api.Vec{Y: ys[y], Z: zs[z]}, Max: api.Vec{Y: ys[y+1], Z: zs[z+1]}}
			if !g.runsOfRow(row, layer, visit) {
				return
			}
		}
	}
}

// runsOfRow is runs for one range of y and z.
func (g grid) runsOfRow(row api.Box, layer []api.Box, visit func(run api.Box, covered bool) bool) bool {
	xs := g.sides[api.AxisX]
	reach, last := xs[0], xs[len(xs)-1]
	more := true
	advance := func(to int, covered bool) {
		if more && to > reach {
			row.Min.X, row.Max.X = reach, to
			more = visit(row, covered)
			reach = to
		}
	}
	for _, b := range layer {
		if b.Min.Y <= row.Min.Y && row.Min.Y < b.Max.Y {
			advance(b.Min.X, false)
			advance(b.Max.X, true)
		}
	}
	advance(last, false)
	return more
}

// crossing returns the boxes that have points at a height.
func crossing(list []api.Box, z int) []api.Box {
	var out []api.Box
	for _, b := range list {
		if b.Min.Z <= z && z < b.Max.Z {
			out = append(out, b)
		}
	}
	return out
}
