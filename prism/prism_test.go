package prism

import (
	"math"
	"math/big"
	"math/rand"
	"slices"
	"testing"

	"gangsaw/api"
	"gangsaw/box"
	"gangsaw/polygon"
)

const top = api.MaxCoord

func v(x, y, z int) api.Vec { return api.Vec{X: x, Y: y, Z: z} }

func pt(x, y int) api.Point { return api.Point{X: x, Y: y} }

// bx returns the box from (n0, n1, n2) to (n3, n4, n5).
func bx(n ...int) api.Box { return api.Box{Min: v(n[0], n[1], n[2]), Max: v(n[3], n[4], n[5])} }

// pr returns the prism from lo to hi with the corners x, y, x, y, ...
func pr(lo, hi int, n ...int) api.Prism {
	p := api.Prism{Lo: lo, Hi: hi}
	for i := 0; i < len(n); i += 2 {
		p.Base = append(p.Base, pt(n[i], n[i+1]))
	}
	return p
}

func same(p, q api.Prism) bool {
	return p.Lo == q.Lo && p.Hi == q.Hi && slices.Equal(p.Base, q.Base)
}

func clone(p api.Prism) api.Prism {
	p.Base = slices.Clone(p.Base)
	return p
}

// wedge is the prism of the examples.
func wedge() api.Prism { return pr(0, 5, 0, 0, 10, 0, 0, 10) }

// round returns a prism with many corners: its edges are the shortest steps of all directions, in order.
func round(corners int) api.Prism {
	var steps []api.Point
	for x := -9; x <= 9; x++ {
		for y := -9; y <= 9; y++ {
			if big.NewInt(0).GCD(nil, nil, big.NewInt(int64(max(x, -x))), big.NewInt(int64(max(y, -y)))).Int64() == 1 {
				steps = append(steps, pt(x, y))
			}
		}
	}
	slices.SortFunc(steps, func(a, b api.Point) int {
		return int(math.Copysign(1, math.Atan2(float64(a.Y), float64(a.X))-math.Atan2(float64(b.Y), float64(b.X))))
	})
	// Opposite steps add up to nothing, so that the way ends where it begins.
	half := steps[:len(steps)/2][:corners/2]
	p := api.Prism{Lo: -3, Hi: 4}
	at := pt(0, 0)
	for _, sign := range []int{1, -1} {
		for _, step := range half {
			p.Base = append(p.Base, at)
			at = pt(at.X+sign*step.X, at.Y+sign*step.Y)
		}
	}
	return p
}

// badPrism is a prism with the error that Check returns for it.
type badPrism struct {
	p    api.Prism
	want api.Errno
}

func badPrisms() []badPrism {
	long := round(64)
	long.Base = append(long.Base, pt(0, 0))
	long.Base[0].X, long.Lo = top+1, top+1
	list := []badPrism{
		{long, api.ErrTooMany},
		{api.Prism{}, api.ErrInvalid}, {api.Prism{Base: api.Polygon{}}, api.ErrInvalid}, {pr(0, 5, 0, 0), api.ErrInvalid}, {pr(0, 5, 0, 0, 10, 0), api.ErrInvalid},
		{pr(0, top+1, 0, 0, 10, top+1), api.ErrInvalid}, // too few corners come before the range
		{pr(5, 5, 0, 0, 10, 0, 0, 10), api.ErrInvalid}, {pr(5, 4, 0, 0, 10, 0, 0, 10), api.ErrInvalid}, {pr(top, -top, 0, 0, 10, 0, 0, 10), api.ErrInvalid},
		{pr(0, 5, 0, 0, 0, 10, 10, 0), api.ErrInvalid},                                         // clockwise
		{pr(0, 5, 0, 0, 5, 0, 10, 0), api.ErrInvalid},                                          // a line
		{pr(0, 5, 0, 0, 5, 0, 10, 0, 0, 10), api.ErrInvalid},                                   // a corner that does not turn
		{pr(0, 5, 0, 0, 10, 0, 10, 0, 0, 10), api.ErrInvalid},                                  // a corner twice
		{pr(0, 5, 0, 0, 10, 0, 0, 10, 0, 0), api.ErrInvalid},                                   // the first corner at the end
		{pr(0, 5, 0, 0, 10, 0, 5, 0, 5, 9), api.ErrInvalid},                                    // a way back
		{pr(0, 5, 3, 3, 3, 3, 3, 3), api.ErrInvalid},                                           // a point
		{pr(0, 5, 0, 0, 8, 0, 8, 8, 4, 2, 0, 8), api.ErrInvalid},                               // a notch
		{pr(0, 5, 0, 0, 10, 10, 10, 0, 0, 10), api.ErrInvalid},                                 // a bow tie
		{pr(0, 5, 0, 10, -6, -8, 10, 3, -10, 3, 6, -8), api.ErrInvalid},                        // a star: two full turns to the left
		{pr(0, 5, 0, 0, 10, 0, 0, 10, 0, 0, 10, 0, 0, 10), api.ErrInvalid},                     // the wedge twice
		{pr(0, 5, 0, 0, 10, 0, 0, 10, 0, 0, 10, 0, 0, 10, 0, 0, 10, 0, 0, 10), api.ErrInvalid}, // three times
		{pr(0, 5, 0, 0, 9, 0, 9, 9, 0, 9, 1, 1, 8, 1, 8, 8, 1, 8), api.ErrInvalid},             // a spiral
		{pr(5, 5, 0, 0, 10, 0, 0, top+1), api.ErrRange},                                        // the range comes before the rest
		{pr(5, top+1, 0, 0, 0, 10, 10, 0), api.ErrRange},
		{pr(-top-1, 0, 0, 0, 0, 0, 10, 0), api.ErrRange}, // also before a corner that is there twice
		{pr(top+2, top+1, 0, 0, 10, 0, 0, 10), api.ErrRange},
		{pr(math.MinInt, math.MaxInt, 0, 0, 10, 0, 0, 10), api.ErrRange},
		{pr(0, 5, math.MinInt, math.MinInt, math.MaxInt, 0, 0, 10), api.ErrRange},
		{pr(0, 5, 0, 0, math.MaxInt, math.MaxInt, math.MaxInt, math.MaxInt), api.ErrRange},
	}
	for i := range 3 {
		for _, n := range []int{top + 1, -top - 1, math.MaxInt, math.MinInt} {
			for _, q := range []api.Point{pt(n, 0), pt(0, n)} {
				p := wedge()
				p.Base[i] = q
				list = append(list, badPrism{p, api.ErrRange})
			}
		}
	}
	return list
}

func badBoxes() []api.Box {
	list := []api.Box{{}, bx(0, 0, 5, 4, 4, 5), bx(4, 0, 0, 4, 4, 4), bx(0, 4, 0, 4, 4, 4), bx(0, 5, 0, 4, 4, 4), bx(5, 0, 0, 4, 4, 4)}
	for i := range 6 {
		for _, n := range []int{top + 1, -top - 1, math.MaxInt, math.MinInt} {
			c := []int{0, 0, 0, 4, 4, 4}
			c[i] = n
			list = append(list, bx(c...))
		}
	}
	return list
}

// smallBases calls visit with all lists of so many corners with coordinates from 0 to limit.
func smallBases(corners, limit int, visit func(base api.Polygon)) {
	base := make(api.Polygon, corners)
	var fill func(i int)
	fill = func(i int) {
		if i == corners {
			visit(base)
			return
		}
		for x := 0; x <= limit; x++ {
			for y := 0; y <= limit; y++ {
				base[i] = pt(x, y)
				fill(i + 1)
			}
		}
	}
	fill(0)
}

// randomPrism returns a prism whose base is a hull of random points, from any of its corners on.
func randomPrism(r *rand.Rand, count, limit int) api.Prism {
	for {
		var list []api.Point
		for range count {
			list = append(list, pt(r.Intn(2*limit+1)-limit, r.Intn(2*limit+1)-limit))
		}
		if base, e := polygon.Hull(list); e == api.OK {
			first := r.Intn(len(base))
			lo := r.Intn(8) - 4
			return api.Prism{Base: slices.Concat(base[first:], base[:first]), Lo: lo, Hi: lo + 1 + r.Intn(4)}
		}
	}
}

func randomBox(r *rand.Rand, limit, size int) api.Box {
	n := func() int { return r.Intn(2*limit+1) - limit }
	x, y, z := n(), n(), n()
	return bx(x, y, z, x+1+r.Intn(size), y+1+r.Intn(size), z+1+r.Intn(3))
}

// Reference definitions, computed in another way than the package does.

// referenceProper reports whether corners go around their hull once, counterclockwise, and are all of its corners.
func referenceProper(base api.Polygon) bool {
	hull, e := polygon.Hull(base)
	if e != api.OK || len(hull) != len(base) {
		return false
	}
	first := slices.Index(base, hull[0])
	return slices.Equal(hull, slices.Concat(base[first:], base[:first]))
}

// ratPoint is a point with exact fractions.
type ratPoint struct{ x, y *big.Rat }

func ratPoints(base api.Polygon) []ratPoint {
	var list []ratPoint
	for _, q := range base {
		list = append(list, ratPoint{big.NewRat(int64(q.X), 1), big.NewRat(int64(q.Y), 1)})
	}
	return list
}

func ratCross(a, b, c ratPoint) *big.Rat {
	sub := func(x, y *big.Rat) *big.Rat { return new(big.Rat).Sub(x, y) }
	mul := func(x, y *big.Rat) *big.Rat { return new(big.Rat).Mul(x, y) }
	return sub(mul(sub(b.x, a.x), sub(c.y, a.y)), mul(sub(b.y, a.y), sub(c.x, a.x)))
}

// referenceCommon reports whether two convex bases have a common part of positive area: it clips one by the edges of the other one.
func referenceCommon(p, q api.Polygon) bool {
	part, other := ratPoints(p), ratPoints(q)
	for i, a := range other {
		b := other[(i+1)%len(other)]
		var left []ratPoint
		for k, c := range part {
			d := part[(k+1)%len(part)]
			m, n := ratCross(a, b, c), ratCross(a, b, d)
			if m.Sign() >= 0 {
				left = append(left, c)
			}
			if m.Sign()*n.Sign() < 0 {
				share := new(big.Rat).Quo(m, new(big.Rat).Sub(m, n))
				along := func(from, to *big.Rat) *big.Rat {
					way := new(big.Rat).Sub(to, from)
					return way.Add(way.Mul(way, share), from)
				}
				left = append(left, ratPoint{along(c.x, d.x), along(c.y, d.y)})
			}
		}
		part = left
	}
	area := new(big.Rat)
	for i := range part {
		area.Add(area, ratCross(part[0], part[i], part[(i+1)%len(part)]))
	}
	return area.Sign() > 0
}

func rectangle(b api.Box) api.Polygon {
	return api.Polygon{pt(b.Min.X, b.Min.Y), pt(b.Max.X, b.Min.Y), pt(b.Max.X, b.Max.Y), pt(b.Min.X, b.Max.Y)}
}

func referenceOverlaps(p api.Prism, b api.Box) bool {
	return p.Lo < b.Max.Z && b.Min.Z < p.Hi && referenceCommon(p.Base, rectangle(b))
}

func referenceMeets(p, q api.Prism) bool {
	return p.Lo < q.Hi && q.Lo < p.Hi && referenceCommon(p.Base, q.Base)
}

func referenceCovers(p api.Prism, b api.Box) bool {
	for _, q := range rectangle(b) {
		if side, _ := polygon.Side(p.Base, q); side < 0 {
			return false
		}
	}
	return p.Lo <= b.Min.Z && b.Max.Z <= p.Hi
}

func referenceSeparator(t *testing.T, p api.Prism, b api.Box) int {
	t.Helper()
	all := func(list api.Polygon, holds func(q api.Point) bool) bool {
		return !slices.ContainsFunc(list, func(q api.Point) bool { return !holds(q) })
	}
	for i, from := range p.Base {
		to := p.Base[(i+1)%len(p.Base)]
		if all(rectangle(b), func(q api.Point) bool { return (to.X-from.X)*(q.Y-from.Y)-(to.Y-from.Y)*(q.X-from.X) <= 0 }) {
			return i
		}
	}
	for i, holds := range []func(q api.Point) bool{
		func(q api.Point) bool { return q.X <= b.Min.X }, func(q api.Point) bool { return q.X >= b.Max.X },
		func(q api.Point) bool { return q.Y <= b.Min.Y }, func(q api.Point) bool { return q.Y >= b.Max.Y },
	} {
		if all(p.Base, holds) {
			return 1000 + i
		}
	}
	return -1
}

// P8.1

func TestCheck(t *testing.T) {
	for _, p := range []api.Prism{
		wedge(), pr(-top, top, -top, -top, top, -top, top, top, -top, top), pr(-5, -4, 3, 3, 4, 3, 3, 4), pr(0, 1, 10, 0, 0, 10, 0, 0), pr(0, 1, 0, 0, 1, -1, 2, 0, 1, 1),
		round(64), round(62), pr(0, 1, top-1, top, top, top-1, top, top), pr(0, 1, -top, -top, top, top-1, top, top),
	} {
		before := clone(p)
		if e := Check(p); e != api.OK || !same(p, before) {
			t.Errorf("Check of %v: %d", p, e)
		}
	}
	if n := len(round(64).Base); n != 64 {
		t.Errorf("round has %d corners", n)
	}
	for _, c := range badPrisms() {
		if e := Check(c.p); e != c.want {
			t.Errorf("Check of %v: %d; want %d", c.p, e, c.want)
		}
	}
}

func TestCheckOfSmallBases(t *testing.T) {
	check := func(base api.Polygon) {
		want := api.ErrInvalid
		if referenceProper(base) {
			want = api.OK
		}
		if e := Check(api.Prism{Base: base, Hi: 1}); e != want {
			t.Fatalf("Check of %v: %d; want %d", base, e, want)
		}
	}
	smallBases(3, 4, check)
	smallBases(4, 2, check)
	smallBases(5, 2, check)
	smallBases(6, 1, check)
	r := rand.New(rand.NewSource(1))
	for range 20000 {
		base := randomPrism(r, 7, 6).Base
		check(base)
		if r.Intn(2) == 0 {
			base[r.Intn(len(base))] = pt(r.Intn(13)-6, r.Intn(13)-6)
		}
		check(base)
		check(slices.Concat(base, base))
	}
}

func TestHullAndArea2(t *testing.T) {
	for _, c := range []struct {
		p    api.Prism
		hull api.Box
		area int64
	}{
		{wedge(), bx(0, 0, 0, 10, 10, 5), 100},
		{pr(-7, -3, 2, -5, 6, 1, 1, 4), bx(1, -5, -7, 6, 4, -3), 42},
		{pr(0, 1, 0, 0, 1, -1, 2, 0, 1, 1), bx(0, -1, 0, 2, 1, 1), 4},
		{pr(-top, top, -top, -top, top, -top, top, top, -top, top), bx(-top, -top, -top, top, top, top), 8 * top * top},
		{pr(top-1, top, top-1, top, top, top-1, top, top), bx(top-1, top-1, top-1, top, top, top), 1},
	} {
		if got, e := Hull(c.p); got != c.hull || e != api.OK {
			t.Errorf("Hull of %v: %v, %d; want %v", c.p, got, e, c.hull)
		}
		if got, e := Area2(c.p); got != c.area || e != api.OK {
			t.Errorf("Area2 of %v: %d, %d; want %d", c.p, got, e, c.area)
		}
	}
	r := rand.New(rand.NewSource(2))
	for range 2000 {
		p := randomPrism(r, 9, 20)
		least, greatest, _ := polygon.Bounds(p.Base)
		if got, e := Hull(p); got != bx(least.X, least.Y, p.Lo, greatest.X, greatest.Y, p.Hi) || e != api.OK {
			t.Fatalf("Hull of %v: %v, %d", p, got, e)
		}
		fan := new(big.Rat)
		list := ratPoints(p.Base)
		for i := 1; i+1 < len(list); i++ {
			fan.Add(fan, ratCross(list[0], list[i], list[i+1]))
		}
		if got, e := Area2(p); fan.Cmp(big.NewRat(got, 1)) != 0 || e != api.OK {
			t.Fatalf("Area2 of %v: %d, %d; want %v", p, got, e, fan)
		}
	}
}

// P8.2 and P8.3

func TestBoxes(t *testing.T) {
	diamond := pr(-2, 2, 0, -4, 4, 0, 0, 4, -4, 0)
	whole := pr(-top, top, -top, -top, top, -top, top, top, -top, top)
	for _, c := range []struct {
		p                api.Prism
		b                api.Box
		overlaps, covers bool
		separator        int
	}{
		{wedge(), bx(5, 5, 0, 9, 9, 5), false, false, 1},
		{wedge(), bx(4, 5, 0, 9, 9, 5), true, false, -1},
		{wedge(), bx(1, 1, 1, 4, 4, 2), true, true, -1},
		{wedge(), bx(1, 1, 1, 6, 6, 2), true, false, -1},
		{wedge(), bx(-5, 3, 0, 0, 4, 5), false, false, 2},
		{wedge(), bx(0, 0, 0, 5, 5, 5), true, true, -1},
		{wedge(), bx(0, 0, 0, 5, 6, 5), true, false, -1},
		{wedge(), bx(0, 0, -1, 5, 5, 5), true, false, -1},
		{wedge(), bx(0, 0, 0, 5, 5, 6), true, false, -1},
		{wedge(), bx(0, 0, 5, 5, 5, 6), false, false, -1}, // z does not matter for the separator
		{wedge(), bx(0, 0, -6, 5, 5, 0), false, false, -1},
		{wedge(), bx(0, 0, 4, 5, 5, 6), true, false, -1},
		{wedge(), bx(0, 0, -6, 5, 5, 1), true, false, -1},
		{wedge(), bx(3, -2, 0, 5, 0, 5), false, false, 0},
		{wedge(), bx(-3, -3, 0, 0, 0, 5), false, false, 0}, // the edges 0 and 2 separate, and two sides
		{wedge(), bx(-3, -3, 0, 1, 1, 5), true, false, -1},
		{wedge(), bx(-3, -3, -3, 20, 20, 9), true, false, -1},
		{diamond, bx(4, -1, 0, 5, 9, 1), false, false, 1000},
		{diamond, bx(-9, -1, 0, -4, 1, 1), false, false, 1001},
		{diamond, bx(-1, 4, 0, 9, 5, 1), false, false, 1002},
		{diamond, bx(-1, -5, 0, 1, -4, 1), false, false, 1003},
		{diamond, bx(3, -1, 0, 5, 1, 1), true, false, -1},
		{diamond, bx(2, 2, 0, 5, 5, 1), false, false, 1},
		{diamond, bx(2, -9, 0, 5, -2, 1), false, false, 0},
		{diamond, bx(-9, -9, 0, -2, -2, 1), false, false, 3},
		{diamond, bx(-2, -2, -2, 2, 2, 2), true, true, -1},
		{diamond, bx(-2, -2, -2, 2, 3, 2), true, false, -1},
		{pr(0, 1, 0, 0, 3, -1, 6, 0, 6, 9, 0, 9), bx(-9, 8, 0, 0, 9, 1), false, false, 4},
		{pr(0, 1, 0, 0, 9, 9, 8, 9), bx(9, 9, 0, 10, 10, 1), false, false, 1},
		{whole, bx(-top, -top, -top, top, top, top), true, true, -1},
		{whole, bx(top-1, top-1, top-1, top, top, top), true, true, -1},
		{pr(-top, top, -top, -top, top, top-1, top, top), bx(top-2, -top, 0, top-1, top-3, 1), false, false, 0},
		{pr(-top, top, -top, -top, top, top-1, top, top), bx(top-1, -top, 0, top, top-2, 1), false, false, 0},
		{pr(-top, top, -top, -top, top, top-1, top, top), bx(top-1, -top, 0, top, top-1, 1), true, false, -1},
	} {
		before := clone(c.p)
		if got, e := Overlaps(c.p, c.b); got != c.overlaps || e != api.OK {
			t.Errorf("Overlaps of %v and %v: %v, %d", c.p, c.b, got, e)
		}
		if got, e := Covers(c.p, c.b); got != c.covers || e != api.OK {
			t.Errorf("Covers of %v and %v: %v, %d", c.p, c.b, got, e)
		}
		if got, e := Separator(c.p, c.b); got != c.separator || e != api.OK || got != referenceSeparator(t, c.p, c.b) {
			t.Errorf("Separator of %v and %v: %d, %d; want %d", c.p, c.b, got, e, c.separator)
		}
		if !same(c.p, before) {
			t.Errorf("%v was changed to %v", before, c.p)
		}
	}
}

func TestRandomBoxes(t *testing.T) {
	r := rand.New(rand.NewSource(3))
	seen := map[int]int{}
	covered := 0
	for range 15000 {
		p, b := randomPrism(r, 3+r.Intn(6), 6), randomBox(r, 6, 1+r.Intn(5))
		if got, e := Overlaps(p, b); got != referenceOverlaps(p, b) || e != api.OK {
			t.Fatalf("Overlaps of %v and %v: %v, %d", p, b, got, e)
		}
		if got, e := Covers(p, b); got != referenceCovers(p, b) || e != api.OK {
			t.Fatalf("Covers of %v and %v: %v, %d", p, b, got, e)
		} else if got {
			covered++
		}
		got, e := Separator(p, b)
		if got != referenceSeparator(t, p, b) || e != api.OK || (got == -1) != referenceCommon(p.Base, rectangle(b)) {
			t.Fatalf("Separator of %v and %v: %d, %d", p, b, got, e)
		}
		seen[got]++
	}
	for _, n := range []int{-1, 0, 1, 2, 3, 1000, 1001, 1002, 1003} {
		if seen[n] == 0 {
			t.Errorf("nothing has the separator %d", n)
		}
	}
	if covered < 100 {
		t.Errorf("%d boxes were covered", covered)
	}
}

func TestMeets(t *testing.T) {
	for _, c := range []struct {
		p, q api.Prism
		want bool
	}{
		{wedge(), wedge(), true},
		{wedge(), pr(0, 5, 10, 10, 0, 10, 10, 0), false}, // a common slanted edge
		{wedge(), pr(0, 5, 10, 10, 0, 10, 9, 0), true},
		{wedge(), pr(5, 9, 0, 0, 10, 0, 0, 10), false},
		{wedge(), pr(-9, 0, 0, 0, 10, 0, 0, 10), false},
		{wedge(), pr(4, 9, 0, 0, 10, 0, 0, 10), true},
		{wedge(), pr(-9, 1, 0, 0, 10, 0, 0, 10), true},
		{wedge(), pr(2, 3, 1, 1, 2, 1, 1, 2), true},
		{wedge(), pr(0, 5, 10, 0, 12, -2, 12, 2), false},                        // a common corner
		{wedge(), pr(0, 5, 6, 5, 20, -1, 20, 30), false},                        // only an edge of the first one separates
		{wedge(), pr(0, 5, 11, -1, 8, 5, -9, -30), true},                        // only the corner at (10, 0) lies inside
		{wedge(), pr(0, 5, 11, -1, -9, -11, -8, -30), false},                    // an edge of the second one separates
		{pr(0, 5, -9, 1, 9, 1, 9, 2, -9, 2), pr(0, 5, 0, 0, 1, 9, -1, 9), true}, // no corner of one lies in the other one
		{round(64), round(64), true},
		{pr(-top, top, -top, -top, top, top-1, top, top), pr(-top, top, -top, -top, top, -top, top, top-1), false},
		{pr(-top, top, -top, -top, top, top-1, top, top), pr(-top, top, -top, -top, top, -top, top, top), true},
	} {
		first, second := clone(c.p), clone(c.q)
		if got, e := Meets(c.p, c.q); got != c.want || e != api.OK {
			t.Errorf("Meets of %v and %v: %v, %d", c.p, c.q, got, e)
		}
		if got, e := Meets(c.q, c.p); got != c.want || e != api.OK {
			t.Errorf("Meets of %v and %v: %v, %d", c.q, c.p, got, e)
		}
		if !same(c.p, first) || !same(c.q, second) {
			t.Errorf("%v, %v were changed to %v, %v", first, second, c.p, c.q)
		}
	}
	r := rand.New(rand.NewSource(4))
	for range 6000 {
		p, q := randomPrism(r, 3+r.Intn(5), 5), randomPrism(r, 3+r.Intn(5), 5)
		if got, e := Meets(p, q); got != referenceMeets(p, q) || e != api.OK {
			t.Fatalf("Meets of %v and %v: %v, %d", p, q, got, e)
		}
	}
}

// P8.4

func TestOf(t *testing.T) {
	for _, c := range []struct {
		b    api.Box
		want api.Prism
	}{
		{bx(1, 2, 3, 4, 6, 8), pr(3, 8, 1, 2, 4, 2, 4, 6, 1, 6)},
		{bx(-top, -top, -top, top, top, top), pr(-top, top, -top, -top, top, -top, top, top, -top, top)},
		{bx(-3, 5, -1, -2, 6, 0), pr(-1, 0, -3, 5, -2, 5, -2, 6, -3, 6)},
	} {
		if got, e := Of(c.b); !same(got, c.want) || e != api.OK || Check(got) != api.OK {
			t.Errorf("Of %v: %v, %d; want %v", c.b, got, e, c.want)
		}
	}
	for _, b := range badBoxes() {
		if got, e := Of(b); !same(got, api.Prism{}) || e != api.ErrInvalid {
			t.Errorf("Of %v: %v, %d", b, got, e)
		}
	}
}

func TestMove(t *testing.T) {
	corner := pr(top-2, top-1, top-2, top, top-1, top-1, top-1, top)
	for _, c := range []struct {
		p    api.Prism
		by   api.Vec
		want api.Prism
		e    api.Errno
	}{
		{wedge(), v(0, 0, 0), wedge(), api.OK},
		{wedge(), v(1, -2, 3), pr(3, 8, 1, -2, 11, -2, 1, 8), api.OK},
		{wedge(), v(-top, -top, -top), pr(-top, 5-top, -top, -top, 10-top, -top, -top, 10-top), api.OK},
		{wedge(), v(top-10, top-10, top-5), pr(top-5, top, top-10, top-10, top, top-10, top-10, top), api.OK},
		{wedge(), v(top-9, 0, 0), api.Prism{}, api.ErrRange},
		{wedge(), v(0, top-9, 0), api.Prism{}, api.ErrRange},
		{wedge(), v(0, 0, top-4), api.Prism{}, api.ErrRange},
		{corner, v(1, 0, 1), pr(top-1, top, top-1, top, top, top-1, top, top), api.OK},
		{corner, v(0, 1, 0), api.Prism{}, api.ErrRange},
		{corner, v(2, 0, 0), api.Prism{}, api.ErrRange},
		{corner, v(0, 0, 2), api.Prism{}, api.ErrRange},
		{pr(-top, 0, -top, 0, 1, 0, 0, 9), v(-1, 0, 0), api.Prism{}, api.ErrRange},
		{pr(-top, 0, -top, 0, 1, 0, 0, 9), v(0, 0, -1), api.Prism{}, api.ErrRange},
		{pr(0, 1, 0, -top, 1, -top, 0, 9), v(0, -1, 0), api.Prism{}, api.ErrRange},
		// The way must be in range, even if the result is.
		{corner, v(-top-1, 0, 0), api.Prism{}, api.ErrRange}, {corner, v(0, -top-1, 0), api.Prism{}, api.ErrRange}, {corner, v(0, 0, -top-1), api.Prism{}, api.ErrRange},
		{pr(-top, -5, -top, -top, -5, -top, -top, -5), v(top+1, 0, 0), api.Prism{}, api.ErrRange},
		{pr(-top, -5, -top, -top, -5, -top, -top, -5), v(0, top+1, 0), api.Prism{}, api.ErrRange},
		{pr(-top, -5, -top, -top, -5, -top, -top, -5), v(0, 0, top+1), api.Prism{}, api.ErrRange},
		{wedge(), v(math.MaxInt, 0, 0), api.Prism{}, api.ErrRange}, {wedge(), v(0, math.MinInt, 0), api.Prism{}, api.ErrRange}, {wedge(), v(0, 0, math.MaxInt), api.Prism{}, api.ErrRange},
	} {
		before := clone(c.p)
		got, e := Move(c.p, c.by)
		if !same(got, c.want) || e != c.e {
			t.Errorf("Move of %v by %v: %v, %d; want %v, %d", c.p, c.by, got, e, c.want, c.e)
		}
		spoil(got)
		if !same(c.p, before) {
			t.Errorf("Move of %v by %v: the argument is now %v", before, c.by, c.p)
		}
	}
}

// spoil changes the base of a result, and what might lie behind it.
func spoil(p api.Prism) {
	base := p.Base[:cap(p.Base)]
	for i := range base {
		base[i] = pt(-77, -77)
	}
}

func TestSlice(t *testing.T) {
	part := func(lo, hi int) api.Prism { return pr(lo, hi, 0, 0, 10, 0, 0, 10) }
	for _, c := range []struct {
		lo, hi int
		want   api.Prism
		e      api.Errno
	}{
		{0, 5, part(0, 5), api.OK}, {-3, 9, part(0, 5), api.OK}, {1, 3, part(1, 3), api.OK}, {-3, 1, part(0, 1), api.OK}, {4, 9, part(4, 5), api.OK},
		{math.MinInt, math.MaxInt, part(0, 5), api.OK}, {2, math.MaxInt, part(2, 5), api.OK}, {math.MinInt, 2, part(0, 2), api.OK},
		{5, 9, api.Prism{}, api.ErrNone}, {-9, 0, api.Prism{}, api.ErrNone}, {7, 9, api.Prism{}, api.ErrNone}, {-9, -7, api.Prism{}, api.ErrNone},
		{math.MinInt, math.MinInt + 1, api.Prism{}, api.ErrNone}, {math.MaxInt - 1, math.MaxInt, api.Prism{}, api.ErrNone},
		{3, 3, api.Prism{}, api.ErrInvalid}, {3, 2, api.Prism{}, api.ErrInvalid}, {9, 8, api.Prism{}, api.ErrInvalid}, {math.MaxInt, math.MinInt, api.Prism{}, api.ErrInvalid},
	} {
		p := wedge()
		got, e := Slice(p, c.lo, c.hi)
		if !same(got, c.want) || e != c.e {
			t.Errorf("Slice from %d to %d: %v, %d; want %v, %d", c.lo, c.hi, got, e, c.want, c.e)
		}
		spoil(got)
		if !same(p, wedge()) {
			t.Errorf("Slice from %d to %d: the argument is now %v", c.lo, c.hi, p)
		}
	}
}

// P1: the order of the errors, and the zero values beside them.

func TestErrors(t *testing.T) {
	for _, c := range badPrisms() {
		if got, e := Hull(c.p); got != (api.Box{}) || e != c.want {
			t.Errorf("Hull of %v: %v, %d; want %d", c.p, got, e, c.want)
		}
		if got, e := Area2(c.p); got != 0 || e != c.want {
			t.Errorf("Area2 of %v: %d, %d; want %d", c.p, got, e, c.want)
		}
		for _, b := range []api.Box{bx(0, 0, 0, 4, 4, 4), {}, bx(0, 0, 0, 4, 4, top+1)} {
			checkBoxErrors(t, c.p, b, c.want)
		}
		for _, other := range []api.Prism{wedge(), {}, pr(0, top+1, 0, 0, 10, 0, 0, 10)} {
			if got, e := Meets(c.p, other); got || e != c.want {
				t.Errorf("Meets of %v and %v: %v, %d; want %d", c.p, other, got, e, c.want)
			}
		}
		if got, e := Meets(wedge(), c.p); got || e != c.want {
			t.Errorf("Meets of %v as the second one: %v, %d; want %d", c.p, got, e, c.want)
		}
		for _, by := range []api.Vec{v(0, 0, 0), v(1, 2, 3), v(0, 0, top+1)} {
			if got, e := Move(c.p, by); !same(got, api.Prism{}) || e != c.want {
				t.Errorf("Move of %v by %v: %v, %d; want %d", c.p, by, got, e, c.want)
			}
		}
		for _, z := range [][2]int{{1, 4}, {4, 1}, {7, 9}, {math.MinInt, math.MaxInt}} {
			if got, e := Slice(c.p, z[0], z[1]); !same(got, api.Prism{}) || e != c.want {
				t.Errorf("Slice of %v to %v: %v, %d; want %d", c.p, z, got, e, c.want)
			}
		}
	}
	for _, b := range badBoxes() {
		checkBoxErrors(t, wedge(), b, api.ErrInvalid)
	}
}

func checkBoxErrors(t *testing.T, p api.Prism, b api.Box, want api.Errno) {
	t.Helper()
	if got, e := Overlaps(p, b); got || e != want {
		t.Errorf("Overlaps of %v and %v: %v, %d; want %d", p, b, got, e, want)
	}
	if got, e := Covers(p, b); got || e != want {
		t.Errorf("Covers of %v and %v: %v, %d; want %d", p, b, got, e, want)
	}
	if got, e := Separator(p, b); got != 0 || e != want {
		t.Errorf("Separator of %v and %v: %d, %d; want %d", p, b, got, e, want)
	}
}

// P8.5

func TestProperties(t *testing.T) {
	r := rand.New(rand.NewSource(5))
	for range 10000 {
		p, q, a, b := randomPrism(r, 6, 6), randomPrism(r, 5, 6), randomBox(r, 6, 5), randomBox(r, 6, 5)
		forth, _ := Meets(p, q)
		if back, _ := Meets(q, p); forth != back {
			t.Fatalf("%v meets %v: %v, the other way: %v", p, q, forth, back)
		}
		of, _ := Of(a)
		if got, _ := Overlaps(of, b); got != box.Overlap(a, b) {
			t.Fatalf("%v overlaps %v: %v", of, b, got)
		}
		overlaps, _ := Overlaps(p, a)
		if got, _ := Meets(p, of); got != overlaps {
			t.Fatalf("%v overlaps %v: %v, meets the prism of it: %v", p, a, overlaps, got)
		}
		hull, _ := Hull(p)
		if overlaps && !box.Overlap(hull, a) {
			t.Fatalf("%v overlaps %v, but not its hull %v", a, p, hull)
		}
		if covers, _ := Covers(p, a); covers && !overlaps {
			t.Fatalf("%v covers %v without an overlap", p, a)
		}
		n, _ := Separator(p, a)
		if overlaps != (n == -1 && p.Lo < a.Max.Z && a.Min.Z < p.Hi) {
			t.Fatalf("%v overlaps %v: %v, the separator is %d", p, a, overlaps, n)
		}
		by := v(r.Intn(2001)-1000, r.Intn(2001)-1000, r.Intn(2001)-1000)
		moved, e := Move(p, by)
		beside, _ := box.Move(a, by)
		other, _ := Move(q, by)
		if got, _ := Overlaps(moved, beside); got != overlaps || e != api.OK {
			t.Fatalf("%v and %v, moved by %v: %v, %d", p, a, by, got, e)
		}
		if got, _ := Meets(moved, other); got != forth {
			t.Fatalf("%v and %v, moved by %v: %v", p, q, by, got)
		}
		if again, e := Move(moved, v(-by.X, -by.Y, -by.Z)); !same(again, p) || e != api.OK {
			t.Fatalf("%v, moved by %v and back: %v, %d", p, by, again, e)
		}
	}
}
