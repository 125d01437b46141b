package plane

import (
	"math"
	"math/rand"
	"testing"

	"gangsaw/api"
	"gangsaw/box"
)

const (
	top   = api.MaxCoord
	bound = 4000000000 // the greatest size of D
)

func v(x, y, z int) api.Vec { return api.Vec{X: x, Y: y, Z: z} }

// bx returns the box from (n0, n1, n2) to (n3, n4, n5).
func bx(n ...int) api.Box { return api.Box{Min: v(n[0], n[1], n[2]), Max: v(n[3], n[4], n[5])} }

func hs(a, b, c int, d int64) api.Half { return api.Half{A: a, B: b, C: c, D: d} }

var (
	slope    = hs(1, 0, 2, 10) // of the examples
	stone    = bx(0, 0, 0, 4, 1, 3)
	whole    = bx(-top, -top, -top, top, top, top)
	nowhere  = hs(0, 0, 0, 5)         // not valid
	far      = hs(0, 0, 0, bound+1)   // not valid, with both errors
	flatBox  = bx(0, 0, 5, 4, 4, 5)   // not valid
	farBox   = bx(3, 0, 0, 1, 1, 2e9) // not valid, with both errors
	farPoint = v(0, top+1, 0)
)

// farHalves have a number that is outside its range.
func farHalves() []api.Half {
	list := []api.Half{far, hs(1, 0, 0, bound+1), hs(1, 0, 0, -bound-1), hs(0, 1, 0, math.MaxInt64), hs(0, 1, 0, math.MinInt64)}
	for _, n := range []int{1001, -1001, math.MaxInt, math.MinInt} {
		list = append(list, hs(n, 1, 1, 0), hs(1, n, 1, 0), hs(1, 1, n, 0), hs(n, 0, 0, 0), hs(n, n, n, bound+1))
	}
	return list
}

func farVecs() []api.Vec {
	var list []api.Vec
	for _, n := range []int{top + 1, -top - 1, math.MaxInt, math.MinInt} {
		list = append(list, v(n, 0, 0), v(0, n, 0), v(0, 0, n), v(n, n, n))
	}
	return list
}

// smallHalves returns the valid half-spaces with factors from -most to most and a D from -most to most.
func smallHalves(most int) []api.Half {
	var list []api.Half
	points(bx(-most, -most, -most, most+1, most+1, most+1), func(p api.Vec) {
		for d := -most; d <= most && p != v(0, 0, 0); d++ {
			list = append(list, hs(p.X, p.Y, p.Z, int64(d)))
		}
	})
	return list
}

func randomHalf(r *rand.Rand, most, mostD int) api.Half {
	n := func(most int) int { return r.Intn(2*most+1) - most }
	for {
		if h := hs(n(most), n(most), n(most), int64(n(mostD))); h.A != 0 || h.B != 0 || h.C != 0 {
			return h
		}
	}
}

func randomBox(r *rand.Rand, limit, size int) api.Box {
	n := func() int { return r.Intn(2*limit+1) - limit }
	x, y, z := n(), n(), n()
	return bx(x, y, z, x+1+r.Intn(size), y+1+r.Intn(size), z+1+r.Intn(size))
}

// points calls visit with the points of a box.
func points(b api.Box, visit func(p api.Vec)) {
	for z := b.Min.Z; z < b.Max.Z; z++ {
		for y := b.Min.Y; y < b.Max.Y; y++ {
			for x := b.Min.X; x < b.Max.X; x++ {
				visit(v(x, y, z))
			}
		}
	}
}

// Reference definitions, computed in another way than the package does.

func value(h api.Half, p api.Vec) int64 {
	return int64(h.A)*int64(p.X) + int64(h.B)*int64(p.Y) + int64(h.C)*int64(p.Z) - h.D
}

// corners returns the least and the greatest value of the eight corners.
func corners(h api.Half, b api.Box) (least, greatest int64) {
	least, greatest = math.MaxInt64, math.MinInt64
	for i := range 8 {
		p := b.Min
		if i&1 != 0 {
			p.X = b.Max.X
		}
		if i&2 != 0 {
			p.Y = b.Max.Y
		}
		if i&4 != 0 {
			p.Z = b.Max.Z
		}
		least, greatest = min(least, value(h, p)), max(greatest, value(h, p))
	}
	return least, greatest
}

// hull joins the unit cells of a box that lie in a half-space, one by one.
func hull(h api.Half, b api.Box) (api.Box, api.Errno) {
	out, e := api.Box{}, api.ErrNone
	points(b, func(p api.Vec) {
		cell := bx(p.X, p.Y, p.Z, p.X+1, p.Y+1, p.Z+1)
		if _, greatest := corners(h, cell); greatest > 0 {
			return
		}
		if e != api.OK {
			out, e = cell, api.OK
		}
		out, _ = box.Hull(out, cell)
	})
	return out, e
}

// depth moves a box step by step.
func depth(h api.Half, b api.Box, direction, most int) int {
	step := []api.Vec{v(1, 0, 0), v(-1, 0, 0), v(0, 1, 0), v(0, -1, 0), v(0, 0, 1), v(0, 0, -1)}[direction]
	for t := range most {
		b.Min, b.Max = plus(b.Min, step), plus(b.Max, step)
		if _, greatest := corners(h, b); greatest > 0 {
			return t
		}
	}
	return most
}

func plus(p, q api.Vec) api.Vec { return v(p.X+q.X, p.Y+q.Y, p.Z+q.Z) }

// P7.1

func TestCheck(t *testing.T) {
	for _, h := range []api.Half{
		slope, hs(1, 0, 0, 0), hs(0, -1, 0, 0), hs(0, 0, 1, -7), hs(1000, 1000, 1000, bound), hs(-1000, -1000, -1000, -bound), hs(0, 0, 1000, 5),
	} {
		if e := Check(h); e != api.OK {
			t.Errorf("Check of %v: %d", h, e)
		}
	}
	for _, h := range farHalves() {
		if e := Check(h); e != api.ErrRange {
			t.Errorf("Check of %v: %d", h, e)
		}
	}
	for _, h := range []api.Half{{}, nowhere, hs(0, 0, 0, bound), hs(0, 0, 0, -bound)} {
		if e := Check(h); e != api.ErrInvalid {
			t.Errorf("Check of %v: %d", h, e)
		}
	}
}

func TestValue(t *testing.T) {
	for _, c := range []struct {
		h    api.Half
		p    api.Vec
		want int64
	}{
		{slope, v(4, 9, 3), 0}, {slope, v(5, 0, 3), 1}, {slope, v(0, 0, 0), -10}, {slope, v(-1, 5, 6), 1},
		{hs(2, -3, 5, -7), v(11, 13, -17), -95},
		{hs(1000, 1000, 1000, -bound), v(top, top, top), 7_000_000_000},
		{hs(1000, -1000, 1000, bound), v(-top, top, -top), -7_000_000_000},
	} {
		if n, e := Value(c.h, c.p); n != c.want || e != api.OK {
			t.Errorf("Value of %v and %v: %d, %d; want %d", c.h, c.p, n, e, c.want)
		}
	}
	for _, h := range smallHalves(2) {
		points(bx(-2, -2, -2, 3, 3, 3), func(p api.Vec) {
			if n, e := Value(h, p); n != value(h, p) || e != api.OK {
				t.Fatalf("Value of %v and %v: %d, %d", h, p, n, e)
			}
		})
	}
	for _, p := range farVecs() {
		if n, e := Value(slope, p); n != 0 || e != api.ErrRange {
			t.Errorf("Value of %v: %d, %d", p, n, e)
		}
	}
}

// P7.2

func TestExtremesAndSide(t *testing.T) {
	for _, c := range []struct {
		h               api.Half
		b               api.Box
		least, greatest int64
		side            int
	}{
		{slope, stone, -10, 0, Inside},
		{slope, bx(0, 0, 0, 5, 1, 3), -10, 1, Across},
		{slope, bx(10, 0, 0, 11, 1, 1), 0, 3, Outside},
		{slope, bx(9, 0, 0, 11, 1, 1), -1, 3, Across},
		{hs(1, 0, 0, 5), bx(5, 0, 0, 6, 1, 1), 0, 1, Outside},
		{hs(1, 0, 0, 5), bx(4, 0, 0, 5, 1, 1), -1, 0, Inside},
		{hs(0, -1, 0, 5), bx(0, -5, 0, 1, 3, 1), -8, 0, Inside},
		{hs(0, -1, 0, 5), bx(0, -6, 0, 1, 3, 1), -8, 1, Across},
		{hs(0, 0, -2, 6), bx(0, 0, -9, 1, 1, -3), 0, 12, Outside},
		{hs(2, -3, 5, 7), bx(1, 2, 3, 4, 6, 9), -8, 40, Across},
		{hs(1000, -1000, 1000, -bound), whole, 1_000_000_000, 7_000_000_000, Outside},
		{hs(1000, -1000, 1000, bound), whole, -7_000_000_000, -1_000_000_000, Inside},
		{hs(1000, -1000, 1000, 0), whole, -3_000_000_000, 3_000_000_000, Across},
	} {
		if least, greatest, e := Extremes(c.h, c.b); least != c.least || greatest != c.greatest || e != api.OK {
			t.Errorf("Extremes of %v and %v: %d, %d, %d", c.h, c.b, least, greatest, e)
		}
		if side, e := Side(c.h, c.b); side != c.side || e != api.OK {
			t.Errorf("Side of %v and %v: %d, %d", c.h, c.b, side, e)
		}
	}
}

func TestExtremesAndSideOfRandomBoxes(t *testing.T) {
	r := rand.New(rand.NewSource(1))
	seen := map[int]int{}
	for range 20000 {
		h, b := randomHalf(r, 3, 20), randomBox(r, 6, 4)
		least, greatest := corners(h, b)
		if m, n, e := Extremes(h, b); m != least || n != greatest || e != api.OK {
			t.Fatalf("Extremes of %v and %v: %d, %d, %d; want %d, %d", h, b, m, n, e, least, greatest)
		}
		want := Across
		if greatest <= 0 {
			want = Inside
		} else if least >= 0 {
			want = Outside
		}
		side, e := Side(h, b)
		if side != want || e != api.OK {
			t.Fatalf("Side of %v and %v: %d, %d; want %d", h, b, side, e, want)
		}
		seen[side]++
	}
	for _, side := range []int{Inside, Outside, Across} {
		if seen[side] < 100 {
			t.Errorf("the position %d was seen %d times", side, seen[side])
		}
	}
}

// P7.3

func TestNormal(t *testing.T) {
	for _, c := range []struct{ h, want api.Half }{
		{hs(2, 0, 4, 7), hs(1, 0, 2, 3)},
		{hs(2, 0, 4, -7), hs(1, 0, 2, -4)},
		{hs(2, 0, 4, -8), hs(1, 0, 2, -4)},
		{hs(2, 0, 4, -1), hs(1, 0, 2, -1)},
		{hs(2, 0, 4, 1), hs(1, 0, 2, 0)},
		{hs(-6, 10, 15, 29), hs(-6, 10, 15, 29)},
		{hs(-6, 9, 0, 29), hs(-2, 3, 0, 9)},
		{hs(0, 0, -7, -15), hs(0, 0, -1, -3)},
		{hs(0, -1000, 0, bound), hs(0, -1, 0, bound/1000)},
		{hs(0, 0, 1000, -bound+1), hs(0, 0, 1, -bound/1000)},
		{hs(999, 0, 0, -bound), hs(1, 0, 0, -4004005)},
		{hs(1000, -1000, 1000, -bound), hs(1, -1, 1, -bound/1000)},
		{hs(1000, 999, 0, -bound), hs(1000, 999, 0, -bound)},
	} {
		if got, e := Normal(c.h); got != c.want || e != api.OK {
			t.Errorf("Normal of %v: %v, %d; want %v", c.h, got, e, c.want)
		}
	}
}

// window has enough points to tell small half-spaces from each other.
var window = bx(-9, -9, -9, 10, 10, 10)

// marks returns which points of the window lie in a half-space, a bit each.
func marks(h api.Half) []uint64 {
	var bits []uint64
	i := 0
	points(window, func(p api.Vec) {
		if i%64 == 0 {
			bits = append(bits, 0)
		}
		if value(h, p) <= 0 {
			bits[i/64] |= 1 << (i % 64)
		}
		i++
	})
	return bits
}

func TestNormalOfSmallHalves(t *testing.T) {
	for _, h := range smallHalves(4) {
		got, e := Normal(h)
		if e != api.OK || Check(got) != api.OK {
			t.Fatalf("Normal of %v: %v, %d", h, got, e)
		}
		points(bx(-5, -5, -5, 6, 6, 6), func(p api.Vec) {
			if (value(h, p) <= 0) != (value(got, p) <= 0) {
				t.Fatalf("Normal of %v: %v; they differ at %v", h, got, p)
			}
		})
		for n := 2; n <= 4; n++ {
			if got.A%n == 0 && got.B%n == 0 && got.C%n == 0 {
				t.Errorf("Normal of %v: %v has the factor %d", h, got, n)
			}
		}
		if again, e := Normal(got); again != got || e != api.OK {
			t.Errorf("Normal of %v: %v, %d", got, again, e)
		}
	}
}

func TestEqualAndWithin(t *testing.T) {
	for _, c := range []struct {
		a, b          api.Half
		equal, within bool
	}{
		{slope, slope, true, true},
		{hs(2, 0, 4, 7), hs(1, 0, 2, 3), true, true},
		{hs(2, 0, 4, 7), hs(3, 0, 6, 11), true, true},
		{hs(2, 0, 4, 7), hs(3, 0, 6, 12), false, true},
		{hs(3, 0, 6, 12), hs(2, 0, 4, 7), false, false},
		{hs(1, 0, 0, -1), hs(2, 0, 0, -2), true, true},
		{hs(1, 0, 0, -1), hs(2, 0, 0, -1), true, true},
		{hs(1, 0, 0, -1), hs(2, 0, 0, -3), false, false},
		{hs(1, 0, 0, 5), hs(-1, 0, 0, 5), false, false},
		{hs(1, 0, 0, -bound), hs(0, 1, 0, bound), false, false},
		{hs(1, 0, 0, -bound), hs(1000, 1, 0, bound), false, false},
		{hs(500, 500, 500, -bound), hs(1000, 1000, 1000, bound), false, true},
		{hs(1000, 1000, 1000, bound), hs(1, 1, 1, bound/1000), true, true},
		{hs(999, 999, 999, bound), hs(1, 1, 1, bound/1000), false, false},
		{hs(1000, 0, 0, bound), hs(999, 0, 0, bound), false, true},
	} {
		if got, e := Equal(c.a, c.b); got != c.equal || e != api.OK {
			t.Errorf("Equal of %v and %v: %v, %d", c.a, c.b, got, e)
		}
		if got, e := Within(c.a, c.b); got != c.within || e != api.OK {
			t.Errorf("Within of %v and %v: %v, %d", c.a, c.b, got, e)
		}
	}
}

func TestEqualAndWithinOfSmallHalves(t *testing.T) {
	list := smallHalves(2)
	var sets [][]uint64
	for _, h := range list {
		sets = append(sets, marks(h))
	}
	for k, a := range list {
		for l, b := range list {
			forth, back := true, true
			for i, in := range sets[k] {
				forth = forth && in&^sets[l][i] == 0
				back = back && sets[l][i]&^in == 0
			}
			if got, e := Within(a, b); got != forth || e != api.OK {
				t.Fatalf("Within of %v and %v: %v, %d", a, b, got, e)
			}
			if got, e := Equal(a, b); got != (forth && back) || e != api.OK {
				t.Fatalf("Equal of %v and %v: %v, %d", a, b, got, e)
			}
		}
	}
}

// P7.4

func TestHull(t *testing.T) {
	for _, c := range []struct {
		h       api.Half
		b, want api.Box
		e       api.Errno
	}{
		{slope, bx(0, 0, 0, 20, 1, 20), bx(0, 0, 0, 8, 1, 4), api.OK},
		{slope, stone, stone, api.OK},
		{slope, bx(-5, -7, -9, 90, 3, 90), bx(-5, -7, -9, 26, 3, 7), api.OK},
		{slope, bx(7, 0, 0, 20, 1, 20), bx(7, 0, 0, 8, 1, 1), api.OK},
		{slope, bx(8, 0, 0, 20, 1, 20), api.Box{}, api.ErrNone},
		{slope, bx(10, 0, 0, 11, 1, 1), api.Box{}, api.ErrNone},
		{hs(-1, 0, 0, -5), bx(0, 0, 0, 9, 2, 2), bx(5, 0, 0, 9, 2, 2), api.OK},
		{hs(0, -2, 0, -5), bx(0, 0, 0, 9, 9, 2), bx(0, 3, 0, 9, 9, 2), api.OK},
		{hs(0, 0, -2, 5), bx(0, 0, -9, 9, 9, 2), bx(0, 0, -2, 9, 9, 2), api.OK},
		{hs(0, 3, 0, 4), bx(0, 0, 0, 9, 9, 2), bx(0, 0, 0, 9, 1, 2), api.OK},
		{hs(0, 3, 0, 2), bx(0, 0, 0, 9, 9, 2), api.Box{}, api.ErrNone},
		{hs(0, 3, 0, -4), bx(0, -9, 0, 9, 9, 2), bx(0, -9, 0, 9, -2, 2), api.OK},
		{hs(1, 1, 1, bound), whole, whole, api.OK},
		{hs(1, 1, 1, -bound), whole, api.Box{}, api.ErrNone},
		{hs(1000, 1000, 1000, -3_000_000_000), whole, api.Box{}, api.ErrNone},
		{hs(1000, 1000, 1000, -3_000_000_000+3000), whole, bx(-top, -top, -top, 1-top, 1-top, 1-top), api.OK},
		{hs(-1000, -1000, -1000, -3_000_000_000+5999), whole, bx(top-3, top-3, top-3, top, top, top), api.OK},
		{hs(-1000, 1000, 1, 0), whole, whole, api.OK},
		{hs(1, -1, 0, 0), bx(0, 0, 0, 9, 4, 1), bx(0, 1, 0, 3, 4, 1), api.OK},
	} {
		if got, e := Hull(c.h, c.b); got != c.want || e != c.e {
			t.Errorf("Hull of %v and %v: %v, %d; want %v, %d", c.h, c.b, got, e, c.want, c.e)
		}
	}
}

func TestHullOfRandomBoxes(t *testing.T) {
	r := rand.New(rand.NewSource(2))
	for range 8000 {
		h, b := randomHalf(r, 4, 25), randomBox(r, 5, 7)
		want, wantE := hull(h, b)
		got, e := Hull(h, b)
		if got != want || e != wantE {
			t.Fatalf("Hull of %v and %v: %v, %d; want %v, %d", h, b, got, e, want, wantE)
		}
		if side, _ := Side(h, b); side == Inside && got != b {
			t.Fatalf("%v lies in %v, its hull is %v", b, h, got)
		}
	}
}

func TestDepth(t *testing.T) {
	edge := bx(top-1, -top, top-1, top, 1-top, top)
	for _, c := range []struct {
		h               api.Half
		b               api.Box
		direction, most int
		want            int
	}{
		{slope, stone, api.PlusX, 100, 0}, {slope, stone, api.MinusX, 100, 100}, {slope, stone, api.PlusY, 7, 7}, {slope, stone, api.MinusY, 7, 7},
		{slope, stone, api.PlusZ, 100, 0}, {slope, stone, api.MinusZ, top, top}, {slope, stone, api.MinusX, 0, 0},
		{slope, bx(0, 0, 0, 1, 1, 2), api.PlusX, 100, 5}, {slope, bx(0, 0, 0, 1, 1, 2), api.PlusX, 4, 4}, {slope, bx(0, 0, 0, 1, 1, 2), api.PlusX, 0, 0},
		{slope, bx(0, 0, 0, 1, 1, 2), api.PlusZ, 100, 2}, {slope, bx(0, 0, 0, 2, 1, 2), api.PlusZ, 100, 2}, {slope, bx(0, 0, 0, 3, 1, 2), api.PlusZ, 100, 1},
		{hs(0, -3, 0, 10), bx(0, 1, 0, 1, 2, 1), api.MinusY, 100, 4}, {hs(0, -3, 0, 10), bx(0, 1, 0, 1, 2, 1), api.PlusY, 100, 100},
		{hs(-1000, 0, 0, bound), whole, api.MinusX, top, top}, {hs(1, 0, 0, top+5), edge, api.PlusX, top, 5}, {hs(0, -1, 0, top+9), edge, api.MinusY, top, 9},
		{hs(0, 0, 1, top+8), edge, api.PlusZ, top, 8}, {hs(0, 0, 1, bound), edge, api.PlusZ, top, top}, {hs(1000, 1000, 1000, bound), whole, api.PlusX, top, top},
		{hs(1000, 1000, 1000, 3_000_000_000), whole, api.PlusX, top, 0}, {hs(1000, 1000, 1000, 3_000_000_999), whole, api.PlusX, top, 0}, {hs(1000, 1000, 1000, 3_000_001_000), whole, api.PlusY, top, 1},
	} {
		if got, e := Depth(c.h, c.b, c.direction, c.most); got != c.want || e != api.OK {
			t.Errorf("Depth of %v and %v in the direction %d to %d: %d, %d; want %d", c.h, c.b, c.direction, c.most, got, e, c.want)
		}
	}
}

func TestDepthOfRandomBoxes(t *testing.T) {
	r := rand.New(rand.NewSource(3))
	for range 8000 {
		h, b, most := randomHalf(r, 4, 40), randomBox(r, 4, 3), r.Intn(9)
		for direction := api.PlusX; direction <= api.MinusZ; direction++ {
			got, e := Depth(h, b, direction, most)
			if _, greatest := corners(h, b); greatest > 0 {
				if got != 0 || e != api.ErrState {
					t.Fatalf("Depth of %v and %v: %d, %d", h, b, got, e)
				}
			} else if want := depth(h, b, direction, most); got != want || e != api.OK {
				t.Fatalf("Depth of %v and %v in the direction %d to %d: %d, %d; want %d", h, b, direction, most, got, e, want)
			}
		}
	}
}

func TestDepthErrors(t *testing.T) {
	across := bx(0, 0, 0, 5, 1, 3)
	for _, c := range []struct {
		b               api.Box
		direction, most int
		want            api.Errno
	}{
		{stone, -1, 5, api.ErrRange}, {stone, 6, 5, api.ErrRange}, {stone, math.MaxInt, 5, api.ErrRange}, {stone, math.MinInt, 5, api.ErrRange},
		{stone, 0, -1, api.ErrRange}, {stone, 0, top + 1, api.ErrRange}, {stone, 0, math.MaxInt, api.ErrRange}, {stone, 0, math.MinInt, api.ErrRange},
		{across, 0, 5, api.ErrState}, {across, 1, 5, api.ErrState}, {across, 2, 0, api.ErrState}, {bx(10, 0, 0, 11, 1, 1), 1, 5, api.ErrState},
		{across, 6, 5, api.ErrRange}, {across, 0, -1, api.ErrRange}, {flatBox, 6, -1, api.ErrInvalid}, {farBox, 0, 5, api.ErrRange},
	} {
		if got, e := Depth(slope, c.b, c.direction, c.most); got != 0 || e != c.want {
			t.Errorf("Depth of %v in the direction %d to %d: %d, %d; want %d", c.b, c.direction, c.most, got, e, c.want)
		}
	}
}

// P1: the order of the errors, and the zero values beside them.

func TestErrorsOfHalves(t *testing.T) {
	bad := []struct {
		h    api.Half
		want api.Errno
	}{{nowhere, api.ErrInvalid}, {far, api.ErrRange}}
	for _, h := range farHalves() {
		bad = append(bad, struct {
			h    api.Half
			want api.Errno
		}{h, api.ErrRange})
	}
	for _, c := range bad {
		for _, b := range []api.Box{stone, flatBox, farBox} {
			checkErrors(t, c.h, b, c.want)
		}
		for _, p := range []api.Vec{v(0, 0, 0), farPoint} {
			if n, e := Value(c.h, p); n != 0 || e != c.want {
				t.Errorf("Value of %v: %d, %d", c.h, n, e)
			}
		}
		if got, e := Normal(c.h); got != (api.Half{}) || e != c.want {
			t.Errorf("Normal of %v: %v, %d", c.h, got, e)
		}
		checkPair(t, c.h, slope, c.want)
		checkPair(t, slope, c.h, c.want)
		checkPair(t, c.h, nowhere, c.want)
		checkPair(t, c.h, far, c.want)
		checkPair(t, c.h, c.h, c.want)
	}
}

func checkPair(t *testing.T, a, b api.Half, want api.Errno) {
	t.Helper()
	if got, e := Equal(a, b); got || e != want {
		t.Errorf("Equal of %v and %v: %v, %d; want %d", a, b, got, e, want)
	}
	if got, e := Within(a, b); got || e != want {
		t.Errorf("Within of %v and %v: %v, %d; want %d", a, b, got, e, want)
	}
}

func TestErrorsOfBoxes(t *testing.T) {
	for _, c := range []struct {
		b    api.Box
		want api.Errno
	}{
		{flatBox, api.ErrInvalid}, {api.Box{}, api.ErrInvalid}, {bx(0, 4, 0, 9, 4, 9), api.ErrInvalid}, {bx(5, 0, 0, 4, 9, 9), api.ErrInvalid}, {farBox, api.ErrRange},
		{bx(0, 0, 0, top+1, 1, 1), api.ErrRange}, {bx(-top-1, 0, 0, 1, 1, 1), api.ErrRange}, {bx(0, math.MinInt, 0, 1, math.MaxInt, 1), api.ErrRange},
	} {
		checkErrors(t, slope, c.b, c.want)
	}
}

func checkErrors(t *testing.T, h api.Half, b api.Box, want api.Errno) {
	t.Helper()
	if m, n, e := Extremes(h, b); m != 0 || n != 0 || e != want {
		t.Errorf("Extremes of %v and %v: %d, %d, %d; want %d", h, b, m, n, e, want)
	}
	if n, e := Side(h, b); n != 0 || e != want {
		t.Errorf("Side of %v and %v: %d, %d; want %d", h, b, n, e, want)
	}
	if got, e := Hull(h, b); got != (api.Box{}) || e != want {
		t.Errorf("Hull of %v and %v: %v, %d; want %d", h, b, got, e, want)
	}
	for _, direction := range []int{api.PlusX, api.MinusX, -1} {
		if n, e := Depth(h, b, direction, 5); n != 0 || e != want {
			t.Errorf("Depth of %v and %v: %d, %d; want %d", h, b, n, e, want)
		}
	}
}

// P7.5

func TestPropertiesOfBoxes(t *testing.T) {
	r := rand.New(rand.NewSource(4))
	for range 8000 {
		h, b := randomHalf(r, 3, 20), randomBox(r, 6, 4)
		side, _ := Side(h, b)
		_, greatest, _ := Extremes(h, b)
		if (side == Inside) != (greatest <= 0) {
			t.Fatalf("%v, %v: the position is %d, the greatest value %d", h, b, side, greatest)
		}
		points(b, func(p api.Vec) {
			smaller := api.Box{Min: p, Max: b.Max}
			if got, _ := Side(h, smaller); side != Across && got != side {
				t.Fatalf("%v, %v: the position is %d, that of %v is %d", h, b, side, smaller, got)
			}
			n, _ := Value(h, p)
			form, _ := Normal(h)
			m, _ := Value(form, p)
			if (n <= 0) != (m <= 0) {
				t.Fatalf("%v, %v: the values of %v are %d and %d", h, form, p, n, m)
			}
		})
	}
}

func TestPropertiesOfWithin(t *testing.T) {
	r := rand.New(rand.NewSource(5))
	within := func(a, b api.Half) bool {
		is, _ := Within(a, b)
		return is
	}
	chains := 0
	for range 60000 {
		a := randomHalf(r, 2, 9)
		b, c := times(a, 1+r.Intn(3), r.Intn(7)-2), times(a, 1+r.Intn(3), r.Intn(9)-2)
		if r.Intn(4) == 0 {
			b = randomHalf(r, 1, 9)
		}
		if within(a, b) && within(b, c) {
			chains++
			if !within(a, c) {
				t.Fatalf("%v is within %v, this is within %v", a, b, c)
			}
		}
		if equal, _ := Equal(a, b); equal != (within(a, b) && within(b, a)) {
			t.Fatalf("Equal of %v and %v: %v", a, b, equal)
		}
	}
	if chains < 1000 {
		t.Errorf("%d chains", chains)
	}
}

// times returns a half-space with multiples of the numbers of another one, and with more than that of D.
func times(h api.Half, n, more int) api.Half {
	return hs(h.A*n, h.B*n, h.C*n, h.D*int64(n)+int64(more))
}
