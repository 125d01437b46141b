package box

import (
	"math"
	"math/rand"
	"slices"
	"testing"

	"gangsaw/api"
)

const top = api.MaxCoord

func v(x, y, z int) api.Vec { return api.Vec{X: x, Y: y, Z: z} }

// bx returns the box from (n0, n1, n2) to (n3, n4, n5).
func bx(n ...int) api.Box { return api.Box{Min: v(n[0], n[1], n[2]), Max: v(n[3], n[4], n[5])} }

var (
	cube  = bx(0, 0, 0, 4, 4, 4)
	whole = bx(-top, -top, -top, top, top, top)
	flat  = bx(0, 0, 5, 4, 4, 5) // not valid
)

// farBoxes have a coordinate that is out of range.
func farBoxes() []api.Box {
	var list []api.Box
	for i := range 6 {
		for _, n := range []int{top + 1, -top - 1, math.MaxInt, math.MinInt} {
			c := []int{0, 0, 0, 4, 4, 4}
			c[i] = n
			list = append(list, bx(c...))
		}
	}
	return append(list, bx(math.MinInt, math.MinInt, math.MinInt, math.MaxInt, math.MaxInt, math.MaxInt))
}

// emptyBoxes have a Min that is not less than Max.
func emptyBoxes() []api.Box {
	return []api.Box{
		{}, flat, bx(4, 0, 0, 4, 4, 4), bx(0, 4, 0, 4, 4, 4), bx(5, 0, 0, 4, 4, 4), bx(0, 5, 0, 4, 4, 4), bx(0, 0, 5, 4, 4, 4),
		bx(top, top, top, -top, -top, -top), bx(top, 0, 0, top, 1, 1),
	}
}

// smallBoxes returns all valid boxes with coordinates from 0 to limit.
func smallBoxes(limit int) []api.Box {
	var list []api.Box
	each := func(visit func(lo, hi int)) {
		for lo := 0; lo < limit; lo++ {
			for hi := lo + 1; hi <= limit; hi++ {
				visit(lo, hi)
			}
		}
	}
	each(func(x, toX int) {
		each(func(y, toY int) {
			each(func(z, toZ int) { list = append(list, bx(x, y, z, toX, toY, toZ)) })
		})
	})
	return list
}

func randomBox(r *rand.Rand, limit int) api.Box {
	n := func() (int, int) {
		lo := r.Intn(limit)
		return lo, lo + 1 + r.Intn(limit-lo)
	}
	x, toX := n()
	y, toY := n()
	z, toZ := n()
	return bx(x, y, z, toX, toY, toZ)
}

func randomBoxes(r *rand.Rand, count, limit int) []api.Box {
	var list []api.Box
	for range count {
		list = append(list, randomBox(r, limit))
	}
	return list
}

// points calls visit with the points of a box, by z, then y, then x.
func points(b api.Box, visit func(p api.Vec)) {
	for z := b.Min.Z; z < b.Max.Z; z++ {
		for y := b.Min.Y; y < b.Max.Y; y++ {
			for x := b.Min.X; x < b.Max.X; x++ {
				visit(v(x, y, z))
			}
		}
	}
}

// within is the definition of a point that lies in a box.
func within(b api.Box, p api.Vec) bool {
	return b.Min.X <= p.X && p.X < b.Max.X && b.Min.Y <= p.Y && p.Y < b.Max.Y && b.Min.Z <= p.Z && p.Z < b.Max.Z
}

func covers(list []api.Box, p api.Vec) int {
	n := 0
	for _, b := range list {
		if within(b, p) {
			n++
		}
	}
	return n
}

// P6.1

func TestCheck(t *testing.T) {
	for _, b := range []api.Box{cube, whole, bx(-5, 3, 9, -4, 4, 10), bx(top-1, top-1, top-1, top, top, top), bx(-top, 0, 0, 1-top, 1, 1)} {
		if e := Check(b); e != api.OK {
			t.Errorf("Check of %v: %d", b, e)
		}
	}
	for _, b := range farBoxes() {
		if e := Check(b); e != api.ErrRange {
			t.Errorf("Check of %v: %d", b, e)
		}
	}
	for _, b := range emptyBoxes() {
		if e := Check(b); e != api.ErrInvalid {
			t.Errorf("Check of %v: %d", b, e)
		}
	}
	if e := Check(bx(3, 0, 0, 1, 5, top+1)); e != api.ErrRange {
		t.Errorf("Check of a box with both errors: %d", e)
	}
}

func TestSizeAndVolume(t *testing.T) {
	for _, c := range []struct {
		b      api.Box
		size   api.Vec
		volume int64
		e      api.Errno
	}{
		{cube, v(4, 4, 4), 64, api.OK}, {bx(-1, 2, 3, 1, 5, 8), v(2, 3, 5), 30, api.OK}, {bx(0, 0, 0, 1, 1, 1), v(1, 1, 1), 1, api.OK},
		{whole, v(2*top, 2*top, 2*top), 8 * top * top * top, api.OK},
		{flat, v(4, 4, 0), 0, api.ErrInvalid}, {bx(3, 2, 1, 0, 0, 0), v(-3, -2, -1), 0, api.ErrInvalid}, {api.Box{}, v(0, 0, 0), 0, api.ErrInvalid},
		{bx(0, 0, 0, 1, 1, 5*top), v(1, 1, 5*top), 0, api.ErrRange}, {bx(math.MinInt, 0, 0, -1, 1, 1), v(math.MaxInt, 1, 1), 0, api.ErrRange},
	} {
		if size := Size(c.b); size != c.size {
			t.Errorf("Size of %v: %v; want %v", c.b, size, c.size)
		}
		if n, e := Volume(c.b); n != c.volume || e != c.e {
			t.Errorf("Volume of %v: %d, %d; want %d, %d", c.b, n, e, c.volume, c.e)
		}
	}
	for _, b := range smallBoxes(3) {
		var count int64
		points(b, func(api.Vec) { count++ })
		if n, e := Volume(b); n != count || e != api.OK {
			t.Errorf("Volume of %v: %d, %d; want %d", b, n, e, count)
		}
	}
	for _, b := range append(farBoxes(), bx(math.MinInt, math.MinInt, math.MinInt, math.MaxInt, math.MaxInt, math.MaxInt)) {
		Size(b)
		if n, e := Volume(b); n != 0 || e != api.ErrRange {
			t.Errorf("Volume of %v: %d, %d", b, n, e)
		}
	}
}

// P6.2

func TestHas(t *testing.T) {
	for _, b := range append(smallBoxes(2), bx(2, 2, 2, 0, 0, 0), bx(0, 0, 1, 2, 2, 1), bx(0, 2, 0, 2, 1, 2), api.Box{}) {
		points(bx(-1, -1, -1, 4, 4, 4), func(p api.Vec) {
			if got := Has(b, p); got != within(b, p) {
				t.Errorf("Has of %v and %v: %v", b, p, got)
			}
		})
	}
	all := bx(math.MinInt, math.MinInt, math.MinInt, math.MaxInt, math.MaxInt, math.MaxInt)
	if !Has(all, all.Min) || Has(all, all.Max) || !Has(all, v(math.MaxInt-1, 0, math.MinInt)) || Has(all, v(0, math.MaxInt, 0)) {
		t.Error("Has of the greatest box")
	}
}

func TestInside(t *testing.T) {
	for _, c := range []struct {
		inner, outer api.Box
		want         bool
	}{
		{cube, cube, true}, {bx(1, 1, 1, 2, 2, 2), cube, true}, {cube, bx(1, 1, 1, 2, 2, 2), false},
		{bx(-1, 0, 0, 4, 4, 4), cube, false}, {bx(0, -1, 0, 4, 4, 4), cube, false}, {bx(0, 0, -1, 4, 4, 4), cube, false},
		{bx(0, 0, 0, 5, 4, 4), cube, false}, {bx(0, 0, 0, 4, 5, 4), cube, false}, {bx(0, 0, 0, 4, 4, 5), cube, false},
		// Boxes without points are compared in the same way.
		{bx(3, 3, 3, 1, 1, 1), cube, true}, {bx(9, 0, 0, 1, 1, 1), cube, true}, {bx(-1, 0, 0, -5, 1, 1), cube, false}, {cube, bx(4, 4, 4, 0, 0, 0), false}, {flat, cube, false},
		{bx(math.MinInt, 0, 0, math.MaxInt, 0, 0), bx(math.MinInt, 0, 0, math.MaxInt, 0, 0), true},
	} {
		if got := Inside(c.inner, c.outer); got != c.want {
			t.Errorf("Inside of %v and %v: %v", c.inner, c.outer, got)
		}
	}
}

func TestPairsOfSmallBoxes(t *testing.T) {
	list := smallBoxes(3)
	for _, a := range list {
		for _, b := range list {
			shared, outside := 0, 0
			points(a, func(p api.Vec) {
				if within(b, p) {
					shared++
				} else {
					outside++
				}
			})
			if got := Overlap(a, b); got != (shared > 0) {
				t.Fatalf("Overlap of %v and %v: %v", a, b, got)
			}
			if got := Inside(a, b); got != (outside == 0) {
				t.Fatalf("Inside of %v and %v: %v", a, b, got)
			}
			checkTouch(t, a, b)
			checkIntersect(t, a, b, shared)
			checkHull(t, a, b)
			checkSubtract(t, a, b)
		}
	}
}

func TestOverlapOfAnyBoxes(t *testing.T) {
	all := bx(math.MinInt, math.MinInt, math.MinInt, math.MaxInt, math.MaxInt, math.MaxInt)
	for _, b := range append(emptyBoxes(), bx(3, 3, 3, 1, 1, 1)) {
		for _, a := range []api.Box{cube, whole, all, b} {
			if Overlap(a, b) || Overlap(b, a) {
				t.Errorf("Overlap of %v and %v, which has no points", a, b)
			}
		}
	}
	if !Overlap(all, cube) || !Overlap(cube, all) || !Overlap(all, all) || Overlap(bx(math.MinInt, 0, 0, 0, 1, 1), bx(0, 0, 0, math.MaxInt, 1, 1)) {
		t.Error("Overlap of the greatest boxes")
	}
}

// checkTouch compares Touch with the definition.
func checkTouch(t *testing.T, a, b api.Box) {
	share := func(lo, hi, from, to int) bool {
		for n := lo; n < hi; n++ {
			if from <= n && n < to {
				return true
			}
		}
		return false
	}
	x, y := share(a.Min.X, a.Max.X, b.Min.X, b.Max.X), share(a.Min.Y, a.Max.Y, b.Min.Y, b.Max.Y)
	z := share(a.Min.Z, a.Max.Z, b.Min.Z, b.Max.Z)
	want, e := 0, api.ErrNone
	for direction, touches := range []bool{
		b.Min.X == a.Max.X && y && z, b.Max.X == a.Min.X && y && z,
		b.Min.Y == a.Max.Y && x && z, b.Max.Y == a.Min.Y && x && z,
		b.Min.Z == a.Max.Z && x && y, b.Max.Z == a.Min.Z && x && y,
	} {
		if touches {
			want, e = direction, api.OK
		}
	}
	got, err := Touch(a, b)
	if got != want || err != e {
		t.Fatalf("Touch of %v and %v: %d, %d; want %d, %d", a, b, got, err, want, e)
	}
	if back, err := Touch(b, a); err != e || e == api.OK && back != got^1 {
		t.Fatalf("Touch of %v and %v: %d, %d; the other way %d", b, a, back, err, got)
	}
}

func TestTouch(t *testing.T) {
	for _, c := range []struct {
		b    api.Box
		want int
		e    api.Errno
	}{
		{bx(4, 1, 1, 5, 2, 2), api.PlusX, api.OK}, {bx(-3, 1, 1, 0, 2, 2), api.MinusX, api.OK}, {bx(1, 4, 1, 5, 5, 2), api.PlusY, api.OK},
		{bx(-9, -1, -9, 9, 0, 9), api.MinusY, api.OK}, {bx(3, 3, 4, 9, 9, 5), api.PlusZ, api.OK}, {bx(0, 0, -1, 1, 1, 0), api.MinusZ, api.OK},
		{bx(4, 4, 0, 5, 5, 1), 0, api.ErrNone}, {bx(4, 4, 4, 5, 5, 5), 0, api.ErrNone}, {cube, 0, api.ErrNone}, {bx(5, 0, 0, 6, 4, 4), 0, api.ErrNone}, {bx(1, 1, 1, 2, 2, 2), 0, api.ErrNone},
		{bx(4, 4, 1, 6, 6, 3), 0, api.ErrNone}, {bx(4, -2, 1, 6, 0, 3), 0, api.ErrNone},
	} {
		if got, e := Touch(cube, c.b); got != c.want || e != c.e {
			t.Errorf("Touch of %v: %d, %d; want %d, %d", c.b, got, e, c.want, c.e)
		}
		checkTouch(t, cube, c.b)
	}
}

// P6.3

func checkIntersect(t *testing.T, a, b api.Box, shared int) {
	got, e := Intersect(a, b)
	if shared == 0 {
		if got != (api.Box{}) || e != api.ErrNone {
			t.Fatalf("Intersect of %v and %v: %v, %d", a, b, got, e)
		}
		return
	}
	count := 0
	points(got, func(p api.Vec) {
		if within(a, p) && within(b, p) {
			count++
		}
	})
	if n, _ := Volume(got); e != api.OK || count != shared || n != int64(shared) {
		t.Fatalf("Intersect of %v and %v: %v, %d", a, b, got, e)
	}
}

func checkHull(t *testing.T, a, b api.Box) {
	got, e := Hull(a, b)
	if e != api.OK || !Inside(a, got) || !Inside(b, got) {
		t.Fatalf("Hull of %v and %v: %v, %d", a, b, got, e)
	}
	for _, smaller := range []api.Box{
		bx(got.Min.X+1, got.Min.Y, got.Min.Z, got.Max.X, got.Max.Y, got.Max.Z), bx(got.Min.X, got.Min.Y+1, got.Min.Z, got.Max.X, got.Max.Y, got.Max.Z),
		bx(got.Min.X, got.Min.Y, got.Min.Z+1, got.Max.X, got.Max.Y, got.Max.Z), bx(got.Min.X, got.Min.Y, got.Min.Z, got.Max.X-1, got.Max.Y, got.Max.Z),
		bx(got.Min.X, got.Min.Y, got.Min.Z, got.Max.X, got.Max.Y-1, got.Max.Z), bx(got.Min.X, got.Min.Y, got.Min.Z, got.Max.X, got.Max.Y, got.Max.Z-1),
	} {
		if Inside(a, smaller) && Inside(b, smaller) {
			t.Fatalf("Hull of %v and %v: %v is not the least one", a, b, got)
		}
	}
}

func TestIntersectAndHull(t *testing.T) {
	other := bx(2, 2, 2, 6, 6, 6)
	if got, e := Intersect(cube, other); got != bx(2, 2, 2, 4, 4, 4) || e != api.OK {
		t.Errorf("Intersect: %v, %d", got, e)
	}
	if got, e := Intersect(cube, bx(4, 0, 0, 5, 4, 4)); got != (api.Box{}) || e != api.ErrNone {
		t.Errorf("Intersect of boxes that only touch: %v, %d", got, e)
	}
	if got, e := Intersect(whole, whole); got != whole || e != api.OK {
		t.Errorf("Intersect of the greatest box: %v, %d", got, e)
	}
	if got, e := Hull(cube, bx(-7, 9, 1, -6, 10, 2)); got != bx(-7, 0, 0, 4, 10, 4) || e != api.OK {
		t.Errorf("Hull: %v, %d", got, e)
	}
	if got, e := Hull(bx(-top, -top, -top, 0, 0, 0), bx(0, 0, 0, top, top, top)); got != whole || e != api.OK {
		t.Errorf("Hull of the greatest box: %v, %d", got, e)
	}
}

func TestMove(t *testing.T) {
	for _, c := range []struct {
		b    api.Box
		by   api.Vec
		want api.Box
		e    api.Errno
	}{
		{cube, v(1, -2, 3), bx(1, -2, 3, 5, 2, 7), api.OK}, {cube, v(0, 0, 0), cube, api.OK},
		{cube, v(top-4, top-4, -top), bx(top-4, top-4, -top, top, top, 4-top), api.OK},
		{bx(-top, -top, -top, 1-top, 1-top, 1-top), v(2*top-1, 2*top-1, 2*top-1), bx(top-1, top-1, top-1, top, top, top), api.OK},
		{cube, v(top-3, 0, 0), api.Box{}, api.ErrRange}, {cube, v(0, top-3, 0), api.Box{}, api.ErrRange}, {cube, v(0, 0, top-3), api.Box{}, api.ErrRange},
		{cube, v(-top-1, 0, 0), api.Box{}, api.ErrRange}, {cube, v(0, -top-1, 0), api.Box{}, api.ErrRange}, {cube, v(0, 0, -top-1), api.Box{}, api.ErrRange},
		{cube, v(math.MaxInt, 0, 0), api.Box{}, api.ErrRange}, {cube, v(0, math.MinInt, 0), api.Box{}, api.ErrRange}, {whole, v(0, 0, math.MinInt), api.Box{}, api.ErrRange},
		{bx(top-1, top-1, top-1, top, top, top), v(math.MaxInt, math.MaxInt, math.MaxInt), api.Box{}, api.ErrRange},
		{flat, v(math.MaxInt, 0, 0), api.Box{}, api.ErrInvalid}, {bx(0, 0, 0, 1, 1, top+1), v(0, 0, -1), api.Box{}, api.ErrRange},
	} {
		if got, e := Move(c.b, c.by); got != c.want || e != c.e {
			t.Errorf("Move of %v by %v: %v, %d; want %v, %d", c.b, c.by, got, e, c.want, c.e)
		}
	}
}

// P6.4

// leftOf is the definition of what is left of a without b.
func leftOf(a, b api.Box) []api.Box {
	c, e := Intersect(a, b)
	if e != api.OK {
		return []api.Box{a}
	}
	var out []api.Box
	for _, part := range []api.Box{
		bx(a.Min.X, a.Min.Y, a.Min.Z, a.Max.X, a.Max.Y, c.Min.Z),
		bx(a.Min.X, a.Min.Y, c.Max.Z, a.Max.X, a.Max.Y, a.Max.Z),
		bx(a.Min.X, a.Min.Y, c.Min.Z, a.Max.X, c.Min.Y, c.Max.Z),
		bx(a.Min.X, c.Max.Y, c.Min.Z, a.Max.X, a.Max.Y, c.Max.Z),
		bx(a.Min.X, c.Min.Y, c.Min.Z, c.Min.X, c.Max.Y, c.Max.Z),
		bx(c.Max.X, c.Min.Y, c.Min.Z, a.Max.X, c.Max.Y, c.Max.Z),
	} {
		if Check(part) == api.OK {
			out = append(out, part)
		}
	}
	return out
}

func checkSubtract(t *testing.T, a, b api.Box) {
	got, e := Subtract(a, b)
	if want := leftOf(a, b); e != api.OK || !slices.Equal(got, want) {
		t.Fatalf("Subtract of %v and %v: %v, %d; want %v", a, b, got, e, want)
	}
	points(bx(-1, -1, -1, 4, 4, 4), func(p api.Vec) {
		want := 0
		if within(a, p) && !within(b, p) {
			want = 1
		}
		if n := covers(got, p); n != want {
			t.Fatalf("Subtract of %v and %v: %v; %v lies in %d parts", a, b, got, p, n)
		}
	})
}

func TestSubtract(t *testing.T) {
	for _, c := range []struct {
		a, b api.Box
		want []api.Box
	}{
		{cube, bx(2, 2, 2, 6, 6, 6), []api.Box{bx(0, 0, 0, 4, 4, 2), bx(0, 0, 2, 4, 2, 4), bx(0, 2, 2, 2, 4, 4)}},
		{cube, bx(1, 1, 1, 3, 3, 3), []api.Box{bx(0, 0, 0, 4, 4, 1), bx(0, 0, 3, 4, 4, 4), bx(0, 0, 1, 4, 1, 3), bx(0, 3, 1, 4, 4, 3), bx(0, 1, 1, 1, 3, 3), bx(3, 1, 1, 4, 3, 3)}},
		{cube, bx(4, 0, 0, 8, 4, 4), []api.Box{cube}}, {cube, bx(9, 9, 9, 10, 10, 10), []api.Box{cube}}, {cube, cube, nil}, {cube, whole, nil},
		{whole, bx(0, -top, -top, 1, top, top), []api.Box{bx(-top, -top, -top, 0, top, top), bx(1, -top, -top, top, top, top)}},
	} {
		if got, e := Subtract(c.a, c.b); !slices.Equal(got, c.want) || e != api.OK {
			t.Errorf("Subtract of %v and %v: %v, %d; want %v", c.a, c.b, got, e, c.want)
		}
	}
}

func TestRest(t *testing.T) {
	for _, c := range []struct {
		list, want []api.Box
	}{
		{nil, []api.Box{cube}}, {[]api.Box{}, []api.Box{cube}}, {[]api.Box{cube}, nil}, {[]api.Box{bx(9, 9, 9, 10, 10, 10)}, []api.Box{cube}},
		{[]api.Box{bx(0, 0, 2, 4, 4, 9), bx(-1, -1, -1, 2, 9, 1)}, []api.Box{bx(0, 0, 1, 4, 4, 2), bx(2, 0, 0, 4, 4, 1)}},
		{[]api.Box{cube, bx(1, 1, 1, 2, 2, 2)}, nil},
	} {
		if got, e := Rest(cube, c.list); !slices.Equal(got, c.want) || e != api.OK {
			t.Errorf("Rest of %v: %v, %d; want %v", c.list, got, e, c.want)
		}
	}
	r := rand.New(rand.NewSource(1))
	for range 2000 {
		b, list := randomBox(r, 12), randomBoxes(r, r.Intn(8), 12)
		want := []api.Box{b}
		for _, taken := range list {
			var next []api.Box
			for _, piece := range want {
				next = append(next, leftOf(piece, taken)...)
			}
			want = next
		}
		if got, e := Rest(b, list); !slices.Equal(got, want) || e != api.OK {
			t.Fatalf("Rest of %v and %v: %v, %d; want %v", b, list, got, e, want)
		}
	}
}

// plates returns thin boxes that divide the cube from 0 to 200 into so many parts by x, y and z.
func plates(parts ...int) []api.Box {
	var list []api.Box
	for axis, n := range parts {
		for i := 1; i < n; i++ {
			c := []int{0, 0, 0, 200, 200, 200}
			c[axis], c[axis+3] = 2*i-1, 2*i
			list = append(list, bx(c...))
		}
	}
	return list
}

func TestRestOfManyPieces(t *testing.T) {
	b := bx(0, 0, 0, 200, 200, 200)
	for _, c := range []struct {
		list  []api.Box
		count int
		e     api.Errno
	}{
		{plates(16, 16, 16), 4096, api.OK}, {plates(16, 16, 17), 0, api.ErrTooMany}, {plates(17, 16, 16), 0, api.ErrTooMany},
		{append(plates(16, 16, 16), b), 0, api.OK}, {append(plates(16, 16, 17), b), 0, api.ErrTooMany}, {append(plates(16, 16, 16), bx(199, 199, 199, 200, 200, 200)), 0, api.ErrTooMany},
		{append(plates(16, 16, 16), bx(1, 1, 1, 29, 29, 29)), 1352, api.OK}, {append([]api.Box{b}, plates(80, 80, 80)...), 0, api.OK},
		{plates(80, 50, 1), 4000, api.OK}, {plates(80, 52, 1), 0, api.ErrTooMany},
	} {
		got, e := Rest(b, c.list)
		if len(got) != c.count || e != c.e {
			t.Errorf("Rest of %d boxes: %d pieces, %d; want %d, %d", len(c.list), len(got), e, c.count, c.e)
		}
	}
}

// P6.5

func TestGap(t *testing.T) {
	for _, c := range []struct {
		b    api.Box
		list []api.Box
		want api.Vec
		e    api.Errno
	}{
		{cube, []api.Box{bx(0, 0, 0, 4, 4, 1), bx(0, 0, 1, 3, 4, 4)}, v(3, 0, 1), api.OK},
		{cube, nil, v(0, 0, 0), api.OK}, {cube, []api.Box{}, v(0, 0, 0), api.OK}, {cube, []api.Box{cube}, v(0, 0, 0), api.ErrNone}, {cube, []api.Box{whole}, v(0, 0, 0), api.ErrNone},
		{bx(-2, -2, -2, 4, 4, 4), []api.Box{cube}, v(-2, -2, -2), api.OK}, {bx(0, 0, 0, 4, 4, 9), []api.Box{cube}, v(0, 0, 4), api.OK},
		{bx(0, 0, 0, 4, 9, 4), []api.Box{cube}, v(0, 4, 0), api.OK}, {bx(0, 0, 0, 9, 4, 4), []api.Box{cube}, v(4, 0, 0), api.OK},
		{whole, []api.Box{bx(-top, -top, -top, top, top, top-1), bx(-top, -top, top-1, top, top-1, top), bx(-top, top-1, top-1, top-1, top, top)}, v(top-1, top-1, top-1), api.OK},
		{cube, []api.Box{bx(4, 0, 0, 9, 9, 9), bx(-5, -5, -5, 0, 9, 9)}, v(0, 0, 0), api.OK},
		{cube, []api.Box{bx(2, 0, 0, 4, 4, 4), bx(0, 0, 0, 2, 4, 3), bx(0, 0, 3, 2, 4, 4)}, v(0, 0, 0), api.ErrNone},
		{cube, []api.Box{bx(0, 0, 0, 4, 4, 2), bx(0, 3, 2, 4, 4, 4), bx(1, 0, 2, 4, 3, 4)}, v(0, 0, 2), api.OK},
	} {
		if got, e := Gap(c.b, c.list); got != c.want || e != c.e {
			t.Errorf("Gap of %v and %v: %v, %d; want %v, %d", c.b, c.list, got, e, c.want, c.e)
		}
	}
}

func TestTotal(t *testing.T) {
	for _, c := range []struct {
		list []api.Box
		want int64
	}{
		{nil, 0}, {[]api.Box{}, 0}, {[]api.Box{cube}, 64}, {[]api.Box{cube, cube}, 64}, {[]api.Box{cube, bx(2, 2, 2, 6, 6, 6), bx(0, 0, 0, 1, 1, 1)}, 120},
		{[]api.Box{whole, cube, whole}, 8 * top * top * top}, {[]api.Box{cube, bx(4, 4, 4, 5, 5, 5), bx(-9, 0, 0, -8, 1, 1)}, 66},
		{[]api.Box{bx(-top, -top, -top, top, top, 0), bx(-top, -top, -1, top, top, top)}, 8 * top * top * top},
	} {
		if got, e := Total(c.list); got != c.want || e != api.OK {
			t.Errorf("Total of %v: %d, %d; want %d", c.list, got, e, c.want)
		}
	}
}

func TestClash(t *testing.T) {
	a, b, c := cube, bx(3, 3, 3, 9, 9, 9), bx(8, 8, 8, 12, 12, 12)
	for _, x := range []struct {
		list []api.Box
		i, k int
		e    api.Errno
	}{
		{nil, 0, 0, api.ErrNone}, {[]api.Box{a}, 0, 0, api.ErrNone}, {[]api.Box{a, c}, 0, 0, api.ErrNone}, {[]api.Box{a, bx(4, 0, 0, 5, 4, 4)}, 0, 0, api.ErrNone},
		{[]api.Box{a, a}, 0, 1, api.OK}, {[]api.Box{a, c, b}, 0, 2, api.OK}, {[]api.Box{c, a, b}, 0, 2, api.OK}, {[]api.Box{a, c, c, b}, 0, 3, api.OK},
		{[]api.Box{bx(20, 0, 0, 21, 1, 1), a, c, b, b}, 1, 3, api.OK}, {[]api.Box{c, b, a, a}, 0, 1, api.OK},
	} {
		if i, k, e := Clash(x.list); i != x.i || k != x.k || e != x.e {
			t.Errorf("Clash of %v: %d, %d, %d; want %d, %d, %d", x.list, i, k, e, x.i, x.k, x.e)
		}
	}
}

func TestPartition(t *testing.T) {
	half, rest := bx(0, 0, 0, 4, 4, 2), bx(0, 0, 2, 4, 4, 4)
	for _, c := range []struct {
		b    api.Box
		list []api.Box
		e    api.Errno
	}{
		{cube, []api.Box{cube}, api.OK}, {cube, []api.Box{half, rest}, api.OK}, {cube, []api.Box{rest, half}, api.OK},
		{cube, nil, api.ErrNone}, {cube, []api.Box{half}, api.ErrNone}, {cube, []api.Box{half, bx(0, 0, 2, 4, 4, 3), bx(0, 0, 3, 4, 3, 4)}, api.ErrNone},
		{cube, []api.Box{half, half}, api.ErrOverlap}, {cube, []api.Box{half, cube}, api.ErrOverlap}, {cube, []api.Box{cube, cube}, api.ErrOverlap}, {cube, []api.Box{half, rest, bx(1, 1, 1, 2, 2, 2)}, api.ErrOverlap},
		{cube, []api.Box{half, bx(0, 0, 2, 4, 4, 5)}, api.ErrOutside}, {cube, []api.Box{half, half, bx(9, 9, 9, 10, 10, 10)}, api.ErrOutside}, {cube, []api.Box{bx(-1, 0, 0, 4, 4, 4)}, api.ErrOutside},
		{cube, []api.Box{bx(0, 0, 0, 4, 5, 4)}, api.ErrOutside}, {bx(0, 0, 0, 4, 4, 2), []api.Box{cube}, api.ErrOutside},
		{whole, []api.Box{bx(-top, -top, -top, top, top, 0), bx(-top, -top, 0, top, top, top)}, api.OK}, {whole, []api.Box{bx(-top, -top, -top, top, top, top-1)}, api.ErrNone},
		{whole, []api.Box{whole, whole, whole}, api.ErrOverlap},
	} {
		if e := Partition(c.b, c.list); e != c.e {
			t.Errorf("Partition of %v and %v: %d; want %d", c.b, c.list, e, c.e)
		}
	}
}

// checkLists compares the functions of P6.5 with a count of points.
func checkLists(t *testing.T, b api.Box, list []api.Box, space api.Box) {
	var total int64
	points(space, func(p api.Vec) {
		if covers(list, p) > 0 {
			total++
		}
	})
	if got, e := Total(list); got != total || e != api.OK {
		t.Fatalf("Total of %v: %d, %d; want %d", list, got, e, total)
	}
	gap, gapError := api.Vec{}, api.ErrNone
	twice, outside := false, false
	points(space, func(p api.Vec) {
		n := covers(list, p)
		twice = twice || n > 1
		outside = outside || n > 0 && !within(b, p)
		if n == 0 && within(b, p) && gapError != api.OK {
			gap, gapError = p, api.OK
		}
	})
	if got, e := Gap(b, list); got != gap || e != gapError {
		t.Fatalf("Gap of %v and %v: %v, %d; want %v, %d", b, list, got, e, gap, gapError)
	}
	want := api.OK
	switch {
	case outside:
		want = api.ErrOutside
	case twice:
		want = api.ErrOverlap
	case gapError == api.OK:
		want = api.ErrNone
	}
	if e := Partition(b, list); e != want {
		t.Fatalf("Partition of %v and %v: %d; want %d", b, list, e, want)
	}
	if _, _, e := Clash(list); (e == api.OK) != twice {
		t.Fatalf("Clash of %v: %d", list, e)
	}
}

func TestRandomLists(t *testing.T) {
	r := rand.New(rand.NewSource(2))
	space := bx(0, 0, 0, 7, 7, 7)
	for i := range 3000 {
		b := randomBox(r, 7)
		list := randomBoxes(r, r.Intn(9), 7)
		if i%3 == 0 {
			list, _ = Rest(b, list) // disjoint boxes inside
		}
		if i%6 == 0 && len(list) > 0 {
			rest, _ := Rest(b, list)
			list = append(list, rest...) // a partition
			r.Shuffle(len(list), func(i, k int) { list[i], list[k] = list[k], list[i] })
			if e := Partition(b, list); e != api.OK {
				t.Fatalf("Partition of %v and %v: %d", b, list, e)
			}
		}
		checkLists(t, b, list, space)
	}
}

func TestVolumesAddUp(t *testing.T) {
	r := rand.New(rand.NewSource(3))
	for _, count := range []int{5, 40, MaxBoxes} {
		list := randomBoxes(r, count, 2*top)
		for i := range list {
			list[i].Min = v(list[i].Min.X-top, list[i].Min.Y-top, list[i].Min.Z-top)
			size := min(list[i].Max.X-list[i].Min.X-top, 2*top/count)
			list[i].Max = v(min(top, list[i].Min.X+size), list[i].Max.Y-top, list[i].Max.Z-top)
		}
		list = slices.DeleteFunc(list, func(b api.Box) bool { return Check(b) != api.OK })
		var sum int64
		for i, b := range list {
			rest, e := Rest(b, list[:i])
			if e != api.OK {
				t.Fatalf("Rest of %v: %d", b, e)
			}
			for _, part := range rest {
				n, _ := Volume(part)
				sum += n
			}
		}
		if total, e := Total(list); total != sum || e != api.OK {
			t.Errorf("Total of %d boxes: %d, %d; want %d", len(list), total, e, sum)
		}
	}
}

func TestFullLists(t *testing.T) {
	var nested, row []api.Box
	for i := range MaxBoxes {
		nested = append(nested, bx(i, i, i, 1000-i, 1000-i, 1000-i))
		row = append(row, bx(i, 0, 0, i+1, 1, 1))
	}
	if n, e := Total(nested); n != 1e9 || e != api.OK {
		t.Errorf("Total of nested boxes: %d, %d", n, e)
	}
	if n, e := Total(row); n != MaxBoxes || e != api.OK {
		t.Errorf("Total of a row: %d, %d", n, e)
	}
	if p, e := Gap(bx(0, 0, 0, MaxBoxes, 1, 1), row); p != (api.Vec{}) || e != api.ErrNone {
		t.Errorf("Gap of a row: %v, %d", p, e)
	}
	if e := Partition(bx(0, 0, 0, MaxBoxes, 1, 1), row); e != api.OK {
		t.Errorf("Partition of a row: %d", e)
	}
	if rest, e := Rest(bx(-1, 0, 0, MaxBoxes, 1, 1), row); !slices.Equal(rest, []api.Box{bx(-1, 0, 0, 0, 1, 1)}) || e != api.OK {
		t.Errorf("Rest of a row: %v, %d", rest, e)
	}
}

// P6.6

func TestMovedBoxes(t *testing.T) {
	r := rand.New(rand.NewSource(4))
	for range 20000 {
		a, b := randomBox(r, 5), randomBox(r, 5)
		by := v(r.Intn(20)-10, r.Intn(20)-10, r.Intn(20)-10)
		movedA, _ := Move(a, by)
		movedB, _ := Move(b, by)
		if back, e := Move(movedA, v(-by.X, -by.Y, -by.Z)); back != a || e != api.OK {
			t.Fatalf("Move of %v by %v and back: %v, %d", a, by, back, e)
		}
		if Overlap(a, b) != Overlap(movedA, movedB) {
			t.Fatalf("Overlap of %v and %v changes when they are moved by %v", a, b, by)
		}
		d1, e1 := Touch(a, b)
		d2, e2 := Touch(movedA, movedB)
		if d1 != d2 || e1 != e2 {
			t.Fatalf("Touch of %v and %v changes when they are moved by %v", a, b, by)
		}
	}
}

// Errors

func TestErrorsOfPairs(t *testing.T) {
	check := func(a, b api.Box, want api.Errno) {
		direction, e1 := Touch(a, b)
		both, e2 := Intersect(a, b)
		hull, e3 := Hull(a, b)
		left, e4 := Subtract(a, b)
		for i, e := range []api.Errno{e1, e2, e3, e4} {
			if e != want {
				t.Errorf("function %d of %v and %v: %d; want %d", i, a, b, e, want)
			}
		}
		if direction != 0 || both != (api.Box{}) || hull != (api.Box{}) || left != nil {
			t.Errorf("results of %v and %v, with an error: %d, %v, %v, %v", a, b, direction, both, hull, left)
		}
	}
	for _, far := range farBoxes() {
		check(far, cube, api.ErrRange)
		check(cube, far, api.ErrRange)
		check(far, flat, api.ErrRange)
		check(flat, far, api.ErrInvalid)
	}
	for _, b := range emptyBoxes() {
		check(b, cube, api.ErrInvalid)
		check(cube, b, api.ErrInvalid)
	}
}

func TestErrorsOfLists(t *testing.T) {
	long := slices.Repeat([]api.Box{cube}, MaxBoxes+1)
	longFar := slices.Clone(long)
	longFar[0] = farBoxes()[0]
	far := farBoxes()[5]
	for i, c := range []struct {
		b            api.Box
		list         []api.Box
		e, listAlone api.Errno
	}{
		{cube, long, api.ErrTooMany, api.ErrTooMany}, {far, long, api.ErrTooMany, api.ErrTooMany}, {flat, longFar, api.ErrTooMany, api.ErrTooMany},
		{far, []api.Box{flat}, api.ErrRange, api.ErrInvalid}, {flat, []api.Box{far}, api.ErrInvalid, api.ErrRange},
		{cube, []api.Box{cube, far, flat}, api.ErrRange, api.ErrRange}, {cube, []api.Box{cube, flat, far}, api.ErrInvalid, api.ErrInvalid},
		{cube, longFar[:MaxBoxes], api.ErrRange, api.ErrRange}, {cube, append(slices.Clone(long[:MaxBoxes-1]), flat), api.ErrInvalid, api.ErrInvalid},
	} {
		rest, e1 := Rest(c.b, c.list)
		gap, e2 := Gap(c.b, c.list)
		e3 := Partition(c.b, c.list)
		total, e4 := Total(c.list)
		first, second, e5 := Clash(c.list)
		if e1 != c.e || e2 != c.e || e3 != c.e || e4 != c.listAlone || e5 != c.listAlone {
			t.Errorf("errors %d: %d, %d, %d, %d, %d", i, e1, e2, e3, e4, e5)
		}
		if rest != nil || gap != (api.Vec{}) || total != 0 || first != 0 || second != 0 {
			t.Errorf("results %d, with an error: %v, %v, %d, %d, %d", i, rest, gap, total, first, second)
		}
	}
}

func TestBoxAloneIsChecked(t *testing.T) {
	for _, far := range farBoxes() {
		_, e1 := Rest(far, nil)
		_, e2 := Gap(far, nil)
		if e3 := Partition(far, nil); e1 != api.ErrRange || e2 != api.ErrRange || e3 != api.ErrRange {
			t.Errorf("errors of %v: %d, %d, %d", far, e1, e2, e3)
		}
	}
}

// Rules

func TestArgumentsStayAndResultsAreNew(t *testing.T) {
	list := []api.Box{bx(3, 0, 0, 4, 4, 4), bx(1, 0, 0, 2, 2, 2), bx(2, 1, 1, 3, 3, 3)}
	given := slices.Clone(list)
	Gap(cube, given)
	Total(given)
	Clash(given)
	Partition(cube, given)
	for _, taken := range [][]api.Box{given, given[:0], {bx(9, 9, 9, 10, 10, 10)}} {
		rest, _ := Rest(cube, taken)
		for i := range rest {
			rest[i] = api.Box{}
		}
	}
	if !slices.Equal(given, list) || cube != bx(0, 0, 0, 4, 4, 4) {
		t.Errorf("an argument was changed: %v", given)
	}
	first, _ := Rest(cube, given)
	second, _ := Rest(cube, given)
	first[0] = api.Box{}
	if third, _ := Rest(cube, given); !slices.Equal(second, third) {
		t.Error("results share memory")
	}
}
