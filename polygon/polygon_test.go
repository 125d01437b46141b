package polygon

import (
	"math"
	"math/big"
	"math/rand"
	"slices"
	"testing"

	"gangsaw/api"
)

const top = api.MaxCoord

func pt(x, y int) api.Point { return api.Point{X: x, Y: y} }

// poly returns the polygon with the coordinates x, y, x, y, ...
func poly(n ...int) api.Polygon {
	var p api.Polygon
	for i := 0; i < len(n); i += 2 {
		p = append(p, pt(n[i], n[i+1]))
	}
	return p
}

var (
	square  = poly(0, 0, 10, 0, 10, 10, 0, 10)
	bowTie  = poly(0, 0, 10, 10, 10, 0, 0, 10)
	star    = poly(0, 10, -6, -8, 10, 3, -10, 3, 6, -8) // all turns are to the left, but sides cross each other
	notched = poly(0, 0, 8, 0, 8, 8, 4, 2, 0, 8)
	line    = poly(0, 0, 2, 0, 5, 0)
)

// farPoints are not allowed.
var farPoints = []api.Point{
	pt(top+1, 0), pt(0, top+1), pt(-top-1, 0), pt(0, -top-1),
	pt(math.MaxInt, 0), pt(0, math.MaxInt), pt(math.MinInt, 0), pt(0, math.MinInt), pt(math.MinInt, math.MaxInt),
}

func randomPolygon(r *rand.Rand, corners, limit int) api.Polygon {
	p := make(api.Polygon, corners)
	for i := range p {
		p[i] = pt(r.Intn(2*limit+1)-limit, r.Intn(2*limit+1)-limit)
	}
	return p
}

// simplePolygon returns a random simple polygon: a hull into whose sides further corners are inserted.
func simplePolygon(r *rand.Rand, corners, limit int) api.Polygon {
	for {
		p, e := Hull(randomPolygon(r, 4, limit))
		for tries := 0; e == api.OK && len(p) < corners && tries < 200; tries++ {
			q := slices.Insert(slices.Clone(p), r.Intn(len(p)+1), randomPolygon(r, 1, limit)[0])
			if Check(q) == api.OK && referenceSimple(q) {
				p = q
			}
		}
		if e == api.OK {
			return turned(p, r.Intn(len(p)), r.Intn(2) == 0)
		}
	}
}

// turned returns the same polygon from another corner on, and in the other direction.
func turned(p api.Polygon, by int, back bool) api.Polygon {
	out := slices.Concat(p[by:], p[:by])
	if back {
		slices.Reverse(out)
	}
	return out
}

// smallPolygons calls visit with all polygons of so many corners with coordinates from 0 to limit.
func smallPolygons(corners, limit int, visit func(p api.Polygon)) {
	p := make(api.Polygon, corners)
	var fill func(i int)
	fill = func(i int) {
		if i == corners {
			visit(p)
			return
		}
		for x := 0; x <= limit; x++ {
			for y := 0; y <= limit; y++ {
				p[i] = pt(x, y)
				fill(i + 1)
			}
		}
	}
	fill(0)
}

// Reference definitions, computed in another way than the package does.

// referenceSimple looks for a common point of two sides: a + s (b - a) = c + t (d - c) with s and t from 0 to 1.
func referenceSimple(p api.Polygon) bool {
	n := len(p)
	for i := 0; i < n; i++ {
		for k := i + 1; k < n; k++ {
			a, b, c, d := p[i], p[(i+1)%n], p[k], p[(k+1)%n]
			points, overlap := commonPoints(a, b, c, d)
			if overlap || points && k != i+1 && (i != 0 || k != n-1) {
				return false
			}
		}
	}
	return true
}

// commonPoints reports whether two segments have a common point, and whether they have more than one.
func commonPoints(a, b, c, d api.Point) (some, more bool) {
	ux, uy, vx, vy := b.X-a.X, b.Y-a.Y, d.X-c.X, d.Y-c.Y
	wx, wy := c.X-a.X, c.Y-a.Y
	det := ux*vy - uy*vx
	if det != 0 {
		s, t := wx*vy-wy*vx, wx*uy-wy*ux
		if det < 0 {
			det, s, t = -det, -s, -t
		}
		return 0 <= s && s <= det && 0 <= t && t <= det, false
	}
	if ux*wy != uy*wx {
		return false, false
	}
	// The places along the first segment, whose ends are at 0 and at length.
	length := ux*ux + uy*uy
	from := ux*wx + uy*wy
	to := from + ux*vx + uy*vy
	low, high := max(0, min(from, to)), min(length, max(from, to))
	return low <= high, low < high
}

// referenceSide counts the sides that a ray in the direction (99991, 1) crosses, which meets no corner near the origin.
func referenceSide(p api.Polygon, q api.Point) int {
	far := pt(q.X+99991, q.Y+1)
	side := -1
	for i, a := range p {
		b := p[(i+1)%len(p)]
		if on, _ := commonPoints(a, b, q, q); on && cross(a, b, q) == 0 && between(a, b, q) {
			return 0
		}
		if meets, _ := commonPoints(q, far, a, b); meets {
			side = -side
		}
	}
	return side
}

func cross(a, b, c api.Point) int { return (b.X-a.X)*(c.Y-a.Y) - (b.Y-a.Y)*(c.X-a.X) }

func between(a, b, q api.Point) bool {
	return min(a.X, b.X) <= q.X && q.X <= max(a.X, b.X) && min(a.Y, b.Y) <= q.Y && q.Y <= max(a.Y, b.Y)
}

func sign(n int) int {
	switch {
	case n < 0:
		return -1
	case n > 0:
		return 1
	}
	return 0
}

// P5.1

func TestOrient(t *testing.T) {
	for _, c := range []struct {
		a, b, c api.Point
		want    int
	}{
		{pt(0, 0), pt(10, 0), pt(5, 1), 1}, {pt(0, 0), pt(10, 0), pt(-5, -1), -1}, {pt(0, 0), pt(10, 0), pt(20, 0), 0},
		{pt(3, 3), pt(3, 3), pt(4, 9), 0}, {pt(3, 3), pt(4, 9), pt(3, 3), 0}, {pt(0, 0), pt(0, 4), pt(-1, 2), 1},
		{pt(-top, -top), pt(top, top), pt(top-1, top), 1}, {pt(-top, -top), pt(top, top), pt(top, top-1), -1},
		{pt(-top, top), pt(top, -top), pt(0, 0), 0}, {pt(-top, -top), pt(top, top-1), pt(0, 0), 1}, {pt(-top, -top), pt(top, top-1), pt(0, -1), -1},
		{pt(top, top), pt(-top, top), pt(-top, -top), 1}, {pt(top, top), pt(-top, -top), pt(-top, top), -1},
	} {
		if got := Orient(c.a, c.b, c.c); got != c.want {
			t.Errorf("Orient of %v, %v, %v: %d; want %d", c.a, c.b, c.c, got, c.want)
		}
	}
	for _, limit := range []int{2, 50, top} {
		r := rand.New(rand.NewSource(5))
		for range 20000 {
			p := randomPolygon(r, 3, limit)
			want := sign(cross(p[0], p[1], p[2]))
			if got := Orient(p[0], p[1], p[2]); got != want {
				t.Fatalf("Orient of %v: %d; want %d", p, got, want)
			}
		}
	}
	for _, q := range farPoints {
		Orient(q, pt(0, 0), q) // unspecified, but it returns
	}
}

// invalid are polygons with the error that is named first.
func invalid() []struct {
	p api.Polygon
	e api.Errno
} {
	long := make(api.Polygon, api.MaxCorners+1)
	farLong := slices.Clone(long)
	farLong[7] = farPoints[0]
	list := []struct {
		p api.Polygon
		e api.Errno
	}{
		{long, api.ErrTooMany}, {farLong, api.ErrTooMany}, {make(api.Polygon, 5000), api.ErrTooMany},
		{nil, api.ErrInvalid}, {api.Polygon{}, api.ErrInvalid}, {poly(1, 2), api.ErrInvalid}, {poly(1, 2, 3, 4), api.ErrInvalid},
		{poly(1, 2, 1, 2), api.ErrInvalid}, {poly(top+1, 0, 0, 0), api.ErrInvalid},
		{poly(0, 0, 0, 0, 1, 1), api.ErrDuplicate}, {poly(0, 0, 1, 1, 1, 1), api.ErrDuplicate}, {poly(0, 0, 1, 1, 0, 0), api.ErrDuplicate},
		{poly(0, 0, 5, 0, 5, 5, 0, 5, 0, 0), api.ErrDuplicate}, {poly(0, 0, 10, 10, 10, 0, 10, 0, 0, 10), api.ErrDuplicate},
		{make(api.Polygon, api.MaxCorners), api.ErrDuplicate}, {make(api.Polygon, 3), api.ErrDuplicate},
	}
	for _, q := range farPoints {
		for i := range square {
			p := slices.Clone(square)
			p[i] = q
			list = append(list, struct {
				p api.Polygon
				e api.Errno
			}{p, api.ErrRange})
			p = slices.Clone(p)
			p[(i+1)%4] = p[(i+2)%4]
			list = append(list, struct {
				p api.Polygon
				e api.Errno
			}{p, api.ErrRange})
		}
	}
	return list
}

func TestErrors(t *testing.T) {
	for _, c := range invalid() {
		area, e1 := Area2(c.p)
		isSimple, e2 := Simple(c.p)
		isConvex, e3 := Convex(c.p)
		side, e4 := Side(c.p, pt(0, 0))
		canonical, e5 := Canonical(c.p)
		low, high, e6 := Bounds(c.p)
		for i, e := range []api.Errno{Check(c.p), e1, e2, e3, e4, e5, e6} {
			if e != c.e {
				t.Errorf("function %d of %v: %d; want %d", i, c.p, e, c.e)
			}
		}
		if area != 0 || isSimple || isConvex || side != 0 || canonical != nil || low != (api.Point{}) || high != (api.Point{}) {
			t.Errorf("results of %v, with an error: %d, %v, %v, %d, %v, %v, %v", c.p, area, isSimple, isConvex, side, canonical, low, high)
		}
	}
}

func TestCheckOfValidPolygons(t *testing.T) {
	most := make(api.Polygon, api.MaxCorners)
	for i := range most {
		most[i] = pt(i%2, 0)
	}
	for _, p := range []api.Polygon{square, bowTie, star, notched, line, most, poly(-top, -top, top, -top, top, top, -top, top), poly(0, 0, 1, 1, 0, 0, 1, 1)} {
		if e := Check(p); e != api.OK {
			t.Errorf("Check of %v: %d", p, e)
		}
	}
}

func TestArea2(t *testing.T) {
	for _, c := range []struct {
		p    api.Polygon
		want int64
	}{
		{square, 200}, {bowTie, 0}, {line, 0}, {poly(0, 0, 0, 10, 10, 0), -100}, {notched, 80}, {poly(5, 5, 6, 5, 5, 6), 1},
		{poly(-top, -top, top, -top, top, top, -top, top), 8 * top * top}, {poly(-top, top, top, top, top, -top, -top, -top), -8 * top * top},
	} {
		if got, e := Area2(c.p); got != c.want || e != api.OK {
			t.Errorf("Area2 of %v: %d, %d; want %d", c.p, got, e, c.want)
		}
	}
	r := rand.New(rand.NewSource(1))
	for range 2000 {
		p := randomPolygon(r, 3+r.Intn(62), top)
		if Check(p) != api.OK {
			continue
		}
		want := new(big.Int)
		for i, a := range p {
			b := p[(i+1)%len(p)]
			want.Add(want, new(big.Int).Mul(big.NewInt(int64(a.X)), big.NewInt(int64(b.Y))))
			want.Sub(want, new(big.Int).Mul(big.NewInt(int64(b.X)), big.NewInt(int64(a.Y))))
		}
		got, e := Area2(p)
		if big.NewInt(got).Cmp(want) != 0 || e != api.OK {
			t.Fatalf("Area2 of %v: %d, %d; want %v", p, got, e, want)
		}
		if back, _ := Area2(Reverse(p)); back != -got {
			t.Fatalf("Area2 of the reverse of %v: %d; want %d", p, back, -got)
		}
	}
}

func TestReverse(t *testing.T) {
	for _, c := range []struct{ p, want api.Polygon }{
		{nil, nil}, {api.Polygon{}, nil}, {poly(1, 2), poly(1, 2)}, {poly(1, 2, 3, 4), poly(3, 4, 1, 2)},
		{square, poly(0, 10, 10, 10, 10, 0, 0, 0)}, {poly(math.MaxInt, 0, 5, 5, 5, 5), poly(5, 5, 5, 5, math.MaxInt, 0)},
	} {
		if got := Reverse(c.p); !slices.Equal(got, c.want) {
			t.Errorf("Reverse of %v: %v; want %v", c.p, got, c.want)
		}
	}
	long := randomPolygon(rand.New(rand.NewSource(3)), 5000, 100)
	back := Reverse(long)
	for i, q := range back {
		if q != long[4999-i] {
			t.Fatalf("corner %d of the reverse: %v", i, q)
		}
	}
	if !slices.Equal(Reverse(back), long) {
		t.Error("Reverse twice is not the same")
	}
}

func TestBounds(t *testing.T) {
	for _, c := range []struct {
		p         api.Polygon
		low, high api.Point
	}{
		{square, pt(0, 0), pt(10, 10)}, {star, pt(-10, -8), pt(10, 10)}, {line, pt(0, 0), pt(5, 0)},
		{poly(3, -7, -2, 4, 9, 1), pt(-2, -7), pt(9, 4)}, {poly(5, 5, 6, 5, 5, 6), pt(5, 5), pt(6, 6)}, {poly(-5, -5, -6, -5, -5, -6), pt(-6, -6), pt(-5, -5)},
		{poly(-top, 0, 0, top, top, 0, 0, -top), pt(-top, -top), pt(top, top)},
	} {
		for by := range c.p {
			if low, high, e := Bounds(turned(c.p, by, by%2 == 0)); low != c.low || high != c.high || e != api.OK {
				t.Errorf("Bounds of %v: %v, %v, %d", c.p, low, high, e)
			}
		}
	}
}

// P5.2

func TestSimpleAndConvex(t *testing.T) {
	for _, c := range []struct {
		p              api.Polygon
		simple, convex bool
	}{
		{square, true, true}, {Reverse(square), true, false}, {bowTie, false, false}, {star, false, false}, {notched, true, false}, {line, false, false},
		{poly(0, 0, 5, 0, 10, 0, 10, 10, 0, 10), true, false},        // a corner on a line between its neighbours
		{poly(0, 0, 10, 0, 5, 0, 5, 10), false, false},               // a side goes back on the one before
		{poly(0, 0, 10, 0, 10, 10, 5, 0, 0, 10), false, false},       // a corner touches a side
		{poly(0, 0, 5, 5, 10, 0, 10, 10, 5, 5, 0, 10), false, false}, // a corner twice
		{poly(0, 0, 4, 0, 0, 0, 4, 0), false, false},
		{poly(0, 0, 1, 0, 0, 1), true, true}, {poly(0, 0, 0, 1, 1, 0), true, false},
		{poly(-top, -top, top, -top, top, top, -top, top), true, true}, {poly(-top, -top, top, top, top, top-1), true, false},
		{poly(-top, -top, top, top-1, top, top), true, true},
		{poly(0, 0, 20, 0, 20, 10, 12, 10, 12, 0, 8, 0, 8, 10, 0, 10), false, false}, // sides that are not neighbours on one line
	} {
		for by := range c.p {
			p := turned(c.p, by, false)
			if got, e := Simple(p); got != c.simple || e != api.OK {
				t.Errorf("Simple of %v: %v, %d", p, got, e)
			}
			if got, e := Simple(Reverse(p)); got != c.simple || e != api.OK {
				t.Errorf("Simple of the reverse of %v: %v, %d", p, got, e)
			}
			if got, e := Convex(p); got != c.convex || e != api.OK {
				t.Errorf("Convex of %v: %v, %d", p, got, e)
			}
		}
	}
}

func checkPolygon(t *testing.T, p api.Polygon, points []api.Point) {
	if Check(p) != api.OK {
		return
	}
	want := referenceSimple(p)
	if got, e := Simple(p); got != want || e != api.OK {
		t.Fatalf("Simple of %v: %v, %d; want %v", p, got, e, want)
	}
	convex := want
	for i, q := range p {
		convex = convex && cross(p[(i+len(p)-1)%len(p)], q, p[(i+1)%len(p)]) > 0
	}
	if got, e := Convex(p); got != convex || e != api.OK {
		t.Fatalf("Convex of %v: %v, %d; want %v", p, got, e, convex)
	}
	for _, q := range points {
		side, e := Side(p, q)
		if !want {
			if side != 0 || e != api.ErrConflict {
				t.Fatalf("Side of %v and %v: %d, %d; want a conflict", p, q, side, e)
			}
		} else if wanted := referenceSide(p, q); side != wanted || e != api.OK {
			t.Fatalf("Side of %v and %v: %d, %d; want %d", p, q, side, e, wanted)
		}
	}
}

func gridPoints(low, high int) []api.Point {
	var list []api.Point
	for x := low; x <= high; x++ {
		for y := low; y <= high; y++ {
			list = append(list, pt(x, y))
		}
	}
	return list
}

func TestSmallPolygons(t *testing.T) {
	for corners := 3; corners <= 5; corners++ {
		smallPolygons(corners, 2, func(p api.Polygon) {
			checkPolygon(t, p, []api.Point{pt(1, 1), pt(0, 1), pt(2, 0), pt(3, 1), pt(-1, 2)})
		})
	}
	smallPolygons(4, 3, func(p api.Polygon) { checkPolygon(t, p, []api.Point{pt(1, 1), pt(2, 1), pt(-1, 3)}) })
}

func TestRandomPolygons(t *testing.T) {
	r := rand.New(rand.NewSource(2))
	points := gridPoints(-9, 9)
	for range 600 {
		checkPolygon(t, simplePolygon(r, 3+r.Intn(14), 8), points)
	}
	for range 20000 {
		checkPolygon(t, randomPolygon(r, 3+r.Intn(6), 5), points[:20])
	}
}

func TestSide(t *testing.T) {
	for _, c := range []struct {
		p    api.Polygon
		q    api.Point
		want int
	}{
		{square, pt(5, 5), 1}, {square, pt(10, 5), 0}, {square, pt(11, 5), -1}, {square, pt(0, 0), 0}, {square, pt(-1, 0), -1}, {square, pt(-1, 10), -1},
		{Reverse(square), pt(5, 5), 1}, {Reverse(square), pt(10, 5), 0}, {Reverse(square), pt(11, 5), -1},
		{notched, pt(4, 2), 0}, {notched, pt(4, 3), -1}, {notched, pt(1, 2), 1}, {notched, pt(-3, 2), -1}, {notched, pt(-3, 8), -1}, {notched, pt(4, 8), -1},
		{square, pt(top, top), -1}, {square, pt(-top, 5), -1},
		{poly(-top, -top, top, top-1, top, top), pt(0, 0), 0}, {poly(-top, -top, top, top-1, top, top), pt(0, -1), -1}, {poly(-top, -top, top, -top, top, top), pt(0, -1), 1},
	} {
		if got, e := Side(c.p, c.q); got != c.want || e != api.OK {
			t.Errorf("Side of %v and %v: %d, %d; want %d", c.p, c.q, got, e, c.want)
		}
	}
	for _, q := range farPoints {
		for _, c := range []struct {
			p api.Polygon
			e api.Errno
		}{
			{square, api.ErrRange}, {bowTie, api.ErrRange}, {poly(0, 0, 0, 0, 1, 1), api.ErrRange}, {poly(0, 0), api.ErrInvalid}, {make(api.Polygon, 65), api.ErrTooMany},
		} {
			if side, e := Side(c.p, q); side != 0 || e != c.e {
				t.Errorf("Side of %v and %v: %d, %d; want %d", c.p, q, side, e, c.e)
			}
		}
	}
	for _, p := range []api.Polygon{bowTie, star, line} {
		if side, e := Side(p, pt(1, 1)); side != 0 || e != api.ErrConflict {
			t.Errorf("Side of %v: %d, %d", p, side, e)
		}
	}
}

// P5.3

func TestHull(t *testing.T) {
	for _, c := range []struct {
		list []api.Point
		want api.Polygon
	}{
		{poly(0, 0, 4, 0, 2, 0, 2, 1, 2, 5), poly(0, 0, 4, 0, 2, 5)},
		{poly(2, 5, 2, 1, 2, 0, 4, 0, 0, 0, 0, 0, 4, 0), poly(0, 0, 4, 0, 2, 5)},
		{square, square}, {bowTie, square}, {Reverse(square), square}, {gridPoints(0, 10), square},
		{poly(1, 0, 0, 1, 0, 0), poly(0, 0, 1, 0, 0, 1)}, {poly(0, 5, 0, 0, 0, 3, 2, 2), poly(0, 0, 2, 2, 0, 5)},
		{poly(top, top, -top, -top, top, -top, -top, top, 0, 0, top, 0), poly(-top, -top, top, -top, top, top, -top, top)},
		{poly(-top, -top, top, top, 0, 1), poly(-top, -top, top, top, 0, 1)},
	} {
		if got, e := Hull(c.list); !slices.Equal(got, c.want) || e != api.OK {
			t.Errorf("Hull of %v: %v, %d; want %v", c.list, got, e, c.want)
		}
	}
}

func TestHullErrors(t *testing.T) {
	many := make([]api.Point, MaxPoints+1)
	many[3] = farPoints[0]
	for _, c := range []struct {
		list []api.Point
		e    api.Errno
	}{
		{many, api.ErrTooMany}, {many[:MaxPoints], api.ErrRange}, {make([]api.Point, MaxPoints+1), api.ErrTooMany}, {make([]api.Point, MaxPoints), api.ErrNone},
		{nil, api.ErrNone}, {[]api.Point{}, api.ErrNone}, {poly(3, 4), api.ErrNone}, {poly(3, 4, 5, 6), api.ErrNone}, {poly(0, 0, 1, 1, 2, 2), api.ErrNone},
		{poly(3, 4, 3, 4, 3, 4), api.ErrNone}, {poly(0, 0, 0, 9, 0, 4, 0, 4), api.ErrNone}, {poly(9, 0, -1, 0, 4, 0), api.ErrNone}, {poly(4, -4, 0, 0, 2, -2, 8, -8), api.ErrNone},
	} {
		if got, e := Hull(c.list); got != nil || e != c.e {
			t.Errorf("Hull of %d points: %v, %d; want %d", len(c.list), got, e, c.e)
		}
	}
	for _, q := range farPoints {
		for i := range square {
			p := slices.Clone(square)
			p[i] = q
			if got, e := Hull(p); got != nil || e != api.ErrRange {
				t.Errorf("Hull of %v: %v, %d", p, got, e)
			}
		}
	}
}

// checkHull checks that a polygon is the hull: only this one is convex, has points of the list as its corners, and has no point outside.
func checkHull(t *testing.T, list []api.Point) {
	got, e := Hull(list)
	flat := true
	for _, a := range list {
		for _, b := range list {
			flat = flat && cross(list[0], a, b) == 0
		}
	}
	if flat {
		if got != nil || e != api.ErrNone {
			t.Fatalf("Hull of %v: %v, %d", list, got, e)
		}
		return
	}
	if e != api.OK || len(got) < 3 {
		t.Fatalf("Hull of %v: %v, %d", list, got, e)
	}
	for i, a := range got {
		b := got[(i+1)%len(got)]
		if !slices.Contains(list, a) || cross(a, b, got[(i+2)%len(got)]) <= 0 || i > 0 && compare(got[0], a) >= 0 {
			t.Fatalf("Hull of %v: %v", list, got)
		}
		for _, q := range list {
			if cross(a, b, q) < 0 {
				t.Fatalf("Hull of %v: %v; %v is outside", list, got, q)
			}
		}
	}
	if len(got) <= api.MaxCorners {
		if convex, e := Convex(got); !convex || e != api.OK {
			t.Fatalf("Hull of %v: %v is not convex", list, got)
		}
	}
}

func TestHullOfSmallAndRandomPoints(t *testing.T) {
	for n := 1; n <= 4; n++ {
		smallPolygons(n, 2, func(p api.Polygon) { checkHull(t, p) })
	}
	r := rand.New(rand.NewSource(4))
	for range 2000 {
		checkHull(t, randomPolygon(r, 1+r.Intn(30), 1+r.Intn(10)))
		checkHull(t, randomPolygon(r, 1+r.Intn(30), top))
	}
}

func TestHullOfManyCorners(t *testing.T) {
	var want api.Polygon
	for x := -(MaxPoints / 2); x < MaxPoints/2; x++ {
		want = append(want, pt(x, x*x))
	}
	list := slices.Clone(want)
	rand.New(rand.NewSource(6)).Shuffle(len(list), func(i, k int) { list[i], list[k] = list[k], list[i] })
	if got, e := Hull(list); !slices.Equal(got, want) || e != api.OK {
		t.Errorf("Hull of a parabola: %d corners, %d", len(got), e)
	}
}

// P5.4

func TestCanonical(t *testing.T) {
	for _, c := range []struct{ p, want api.Polygon }{
		{poly(10, 10, 10, 0, 0, 0, 0, 10), square}, {square, square},
		{poly(8, 8, 4, 2, 0, 8, 0, 0, 8, 0), notched},
		{poly(5, 0, 10, 0, 10, 10, 0, 10, 0, 0), poly(0, 0, 5, 0, 10, 0, 10, 10, 0, 10)}, // a corner on a line stays
		{poly(3, 1, 3, 9, -2, 4), poly(-2, 4, 3, 1, 3, 9)},
		{poly(-top, top, top, top, top, -top, -top, -top), poly(-top, -top, top, -top, top, top, -top, top)},
	} {
		if got, e := Canonical(c.p); !slices.Equal(got, c.want) || e != api.OK {
			t.Errorf("Canonical of %v: %v, %d; want %v", c.p, got, e, c.want)
		}
	}
	for _, p := range []api.Polygon{bowTie, star, line, poly(0, 0, 10, 0, 10, 10, 5, 0, 0, 10), poly(0, 0, 4, 0, 0, 0, 4, 0)} {
		if got, e := Canonical(p); got != nil || e != api.ErrConflict {
			t.Errorf("Canonical of %v: %v, %d", p, got, e)
		}
	}
}

func TestCanonicalOfTurnedPolygons(t *testing.T) {
	r := rand.New(rand.NewSource(7))
	for range 300 {
		p := simplePolygon(r, 3+r.Intn(12), 10)
		want, e := Canonical(p)
		area, _ := Area2(want)
		if e != api.OK || area <= 0 || slices.MinFunc(want, compare) != want[0] {
			t.Fatalf("Canonical of %v: %v, %d", p, want, e)
		}
		same := false
		for by := range p {
			same = same || slices.Equal(turned(p, by, false), want) || slices.Equal(turned(p, by, true), want)
			for _, back := range []bool{false, true} {
				if got, e := Canonical(turned(p, by, back)); !slices.Equal(got, want) || e != api.OK {
					t.Fatalf("Canonical of %v, turned: %v, %d; want %v", p, got, e, want)
				}
			}
		}
		if !same {
			t.Fatalf("Canonical of %v: %v has other corners", p, want)
		}
	}
}

// P5.5

func TestPick(t *testing.T) {
	r := rand.New(rand.NewSource(8))
	points := gridPoints(-12, 12)
	for range 300 {
		p := simplePolygon(r, 3+r.Intn(20), 12)
		inside, on := 0, 0
		for _, q := range points {
			switch side, e := Side(p, q); {
			case e != api.OK:
				t.Fatalf("Side of %v and %v: %d", p, q, e)
			case side == 1:
				inside++
			case side == 0:
				on++
			}
		}
		area, _ := Area2(p)
		if int64(2*inside+on) != max(area, -area)+2 {
			t.Fatalf("%v has %d points inside, %d on its sides, and the doubled area %d", p, inside, on, area)
		}
	}
}

func TestMostCorners(t *testing.T) {
	// A comb of 64 corners.
	var comb api.Polygon
	for i := range api.MaxCorners - 2 {
		comb = append(comb, pt(i, i%2*100))
	}
	comb = append(comb, pt(api.MaxCorners, -10), pt(-10, -10))
	if got, e := Simple(comb); !got || e != api.OK {
		t.Errorf("Simple of the comb: %v, %d", got, e)
	}
	for x := range api.MaxCorners {
		q := pt(x, 50)
		if got, e := Side(comb, q); got != referenceSide(comb, q) || e != api.OK {
			t.Errorf("Side of the comb and %v: %d, %d", q, got, e)
		}
	}
}

// Rules

func TestArgumentsStayAndResultsAreNew(t *testing.T) {
	clockwise := poly(10, 10, 10, 0, 0, 0, 0, 10)
	given := slices.Clone(clockwise)
	Area2(given)
	Simple(given)
	Convex(given)
	Side(given, pt(1, 1))
	Bounds(given)
	hull, _ := Hull(given)
	canonical, _ := Canonical(given)
	reverse := Reverse(given)
	again, _ := Canonical(square)
	for _, result := range []api.Polygon{hull, canonical, reverse, again} {
		for i := range result {
			result[i] = pt(77, 77)
		}
	}
	if !slices.Equal(given, clockwise) || !slices.Equal(square, poly(0, 0, 10, 0, 10, 10, 0, 10)) {
		t.Errorf("an argument was changed: %v, %v", given, square)
	}
}
