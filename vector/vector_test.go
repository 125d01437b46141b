package vector

import (
	"math"
	"math/rand"
	"testing"

	"gangsaw/api"
)

const top = api.MaxCoord

func v(x, y, z int) api.Vec { return api.Vec{X: x, Y: y, Z: z} }

func pt(x, y int) api.Point { return api.Point{X: x, Y: y} }

// far are vectors that are out of range, each in one coordinate or in more.
var far = []api.Vec{
	v(top+1, 0, 0), v(0, top+1, 0), v(0, 0, top+1), v(-top-1, 0, 0), v(0, -top-1, 0), v(0, 0, -top-1),
	v(math.MaxInt, 0, 0), v(0, math.MaxInt, 0), v(0, 0, math.MaxInt), v(math.MinInt, 0, 0), v(0, math.MinInt, 0), v(0, 0, math.MinInt),
	v(math.MinInt, math.MaxInt, math.MinInt), v(top, top, top+1),
}

var farPoints = []api.Point{
	pt(top+1, 0), pt(0, top+1), pt(-top-1, 0), pt(0, -top-1),
	pt(math.MaxInt, 0), pt(0, math.MaxInt), pt(math.MinInt, 0), pt(0, math.MinInt), pt(math.MinInt, math.MaxInt),
}

func randomVec(r *rand.Rand, limit int) api.Vec {
	n := func() int { return r.Intn(2*limit+1) - limit }
	return v(n(), n(), n())
}

func randomPoint(r *rand.Rand, limit int) api.Point {
	p := randomVec(r, limit)
	return pt(p.X, p.Y)
}

// smallVecs returns the vectors whose coordinates are from -limit to limit, in their order.
func smallVecs(limit int) []api.Vec {
	var list []api.Vec
	for x := -limit; x <= limit; x++ {
		for y := -limit; y <= limit; y++ {
			for z := -limit; z <= limit; z++ {
				list = append(list, v(x, y, z))
			}
		}
	}
	return list
}

// P3.1

func TestCheck(t *testing.T) {
	for _, a := range []api.Vec{v(0, 0, 0), v(1, -2, 3), v(top, top, top), v(-top, -top, -top), v(top, -top, 0)} {
		if e := Check(a); e != api.OK {
			t.Errorf("Check of %v: %d", a, e)
		}
	}
	for _, a := range far {
		if e := Check(a); e != api.ErrRange {
			t.Errorf("Check of %v: %d", a, e)
		}
	}
}

func TestAddAndSub(t *testing.T) {
	for _, c := range []struct {
		a, b, sum, difference api.Vec
	}{
		{v(0, 0, 0), v(0, 0, 0), v(0, 0, 0), v(0, 0, 0)},
		{v(1, 2, 3), v(10, 20, 40), v(11, 22, 43), v(-9, -18, -37)},
		{v(-1, 2, -3), v(4, -5, -6), v(3, -3, -9), v(-5, 7, 3)},
		{v(top, -top, 0), v(0, 0, top), v(top, -top, top), v(top, -top, -top)},
		{v(top-1, 1-top, 5), v(1, -1, -5), v(top, -top, 0), v(top-2, 2-top, 10)},
	} {
		if got, e := Add(c.a, c.b); got != c.sum || e != api.OK {
			t.Errorf("Add of %v and %v: %v, %d", c.a, c.b, got, e)
		}
		if got, e := Sub(c.a, c.b); got != c.difference || e != api.OK {
			t.Errorf("Sub of %v and %v: %v, %d", c.a, c.b, got, e)
		}
	}
}

func TestAddAndSubOutOfRange(t *testing.T) {
	for _, c := range []struct {
		a, b api.Vec
	}{
		{v(top, 0, 0), v(1, 0, 0)}, {v(0, top, 0), v(0, 1, 0)}, {v(0, 0, top), v(0, 0, 1)},
		{v(-top, 0, 0), v(-1, 0, 0)}, {v(0, -top, 0), v(0, -1, 0)}, {v(0, 0, -top), v(0, 0, -1)},
		{v(top, top, top), v(top, top, top)}, {v(5, 5, top/2+1), v(5, 5, top/2)},
	} {
		if got, e := Add(c.a, c.b); got != (api.Vec{}) || e != api.ErrRange {
			t.Errorf("Add of %v and %v: %v, %d", c.a, c.b, got, e)
		}
		other := v(-c.b.X, -c.b.Y, -c.b.Z)
		if got, e := Sub(c.a, other); got != (api.Vec{}) || e != api.ErrRange {
			t.Errorf("Sub of %v and %v: %v, %d", c.a, other, got, e)
		}
	}
}

func TestCompare(t *testing.T) {
	ordered := append([]api.Vec{v(math.MinInt, math.MaxInt, math.MaxInt), v(-top-1, 0, 0)}, smallVecs(1)...)
	ordered = append(ordered, v(2, math.MinInt, math.MaxInt), v(2, 0, math.MinInt), v(2, 0, math.MaxInt), v(2, math.MaxInt, 0), v(math.MaxInt, math.MinInt, 0))
	for i, a := range ordered {
		for k, b := range ordered {
			want := 0
			if i < k {
				want = -1
			} else if i > k {
				want = 1
			}
			if c := Compare(a, b); c != want {
				t.Errorf("Compare of %v and %v: %d; want %d", a, b, c, want)
			}
		}
	}
}

// P3.2

func TestDotAndCross(t *testing.T) {
	for _, c := range []struct {
		a, b  api.Vec
		dot   int64
		cross [3]int64
	}{
		{v(1, 2, 3), v(4, 5, 6), 32, [3]int64{-3, 6, -3}},
		{v(0, 0, 0), v(4, 5, 6), 0, [3]int64{}},
		{v(1, 0, 0), v(0, 1, 0), 0, [3]int64{0, 0, 1}},
		{v(0, 1, 0), v(0, 0, 1), 0, [3]int64{1, 0, 0}},
		{v(0, 0, 1), v(1, 0, 0), 0, [3]int64{0, 1, 0}},
		{v(2, -3, 5), v(-7, 11, 13), 18, [3]int64{-94, -61, 1}},
		{v(3, -6, 9), v(-1, 2, -3), -42, [3]int64{}},
		{v(top, top, top), v(top, top, top), 3_000_000_000_000, [3]int64{}},
		{v(top, top, top), v(-top, -top, -top), -3_000_000_000_000, [3]int64{}},
		{v(top, -top, top), v(top, top, -top), -1_000_000_000_000, [3]int64{0, 2_000_000_000_000, 2_000_000_000_000}},
	} {
		if got, e := Dot(c.a, c.b); got != c.dot || e != api.OK {
			t.Errorf("Dot of %v and %v: %d, %d", c.a, c.b, got, e)
		}
		if got, e := Cross(c.a, c.b); got != c.cross || e != api.OK {
			t.Errorf("Cross of %v and %v: %v, %d", c.a, c.b, got, e)
		}
	}
}

// The difference of the points of Distance may leave the range.
func TestDistance(t *testing.T) {
	for _, c := range []struct {
		a, b api.Vec
		want int64
	}{
		{v(0, 0, 0), v(1, 2, 2), 9},
		{v(1, 2, 2), v(0, 0, 0), 9},
		{v(5, 6, 7), v(5, 6, 7), 0},
		{v(1, 0, 0), v(-1, 0, 0), 4},
		{v(0, 1, 0), v(0, -2, 0), 9},
		{v(0, 0, 1), v(0, 0, -3), 16},
		{v(top, top, top), v(-top, -top, -top), 12_000_000_000_000},
	} {
		if got, e := Distance(c.a, c.b); got != c.want || e != api.OK {
			t.Errorf("Distance of %v and %v: %d, %d", c.a, c.b, got, e)
		}
	}
}

// P3.3

func TestPrimitive(t *testing.T) {
	for _, c := range []struct {
		in, want api.Vec
		factor   int
	}{
		{v(6, -9, 0), v(2, -3, 0), 3},
		{v(1, 0, 0), v(1, 0, 0), 1},
		{v(0, -7, 0), v(0, -1, 0), 7},
		{v(0, 0, top), v(0, 0, 1), top},
		{v(-top, 0, 0), v(-1, 0, 0), top},
		{v(-top, -top, -top), v(-1, -1, -1), top},
		{v(6, 10, 15), v(6, 10, 15), 1},
		{v(-6, -10, -14), v(-3, -5, -7), 2},
		{v(top, top-1, 0), v(top, top-1, 0), 1},
		{v(-4, 0, 6), v(-2, 0, 3), 2},
		{v(0, 12, -18), v(0, 2, -3), 6},
	} {
		if got, factor, e := Primitive(c.in); got != c.want || factor != c.factor || e != api.OK {
			t.Errorf("Primitive of %v: %v, %d, %d", c.in, got, factor, e)
		}
	}
}

func TestPrimitiveOfSmallVectors(t *testing.T) {
	for _, a := range smallVecs(7) {
		greatest := 0
		for n := 1; n <= 7; n++ {
			if a.X%n == 0 && a.Y%n == 0 && a.Z%n == 0 && a != v(0, 0, 0) {
				greatest = n
			}
		}
		got, factor, e := Primitive(a)
		if greatest == 0 {
			if got != v(0, 0, 0) || factor != 0 || e != api.ErrInvalid {
				t.Errorf("Primitive of %v: %v, %d, %d", a, got, factor, e)
			}
		} else if factor != greatest || e != api.OK || v(got.X*factor, got.Y*factor, got.Z*factor) != a {
			t.Errorf("Primitive of %v: %v, %d, %d", a, got, factor, e)
		}
	}
}

// P3.4

func TestTurnAndOn(t *testing.T) {
	for _, c := range []struct {
		a, b, c api.Point
		turn    int
		on      bool
	}{
		{pt(0, 0), pt(10, 0), pt(5, 1), 1, false},
		{pt(0, 0), pt(10, 0), pt(5, -1), -1, false},
		{pt(0, 0), pt(10, 0), pt(5, 0), 0, true},
		{pt(0, 0), pt(10, 0), pt(11, 0), 0, false},
		{pt(0, 0), pt(10, 0), pt(-1, 0), 0, false},
		{pt(0, 0), pt(10, 0), pt(0, 0), 0, true},
		{pt(0, 0), pt(10, 0), pt(10, 0), 0, true},
		{pt(3, 9), pt(3, -9), pt(3, 9), 0, true},
		{pt(3, 9), pt(3, -9), pt(3, 10), 0, false},
		{pt(3, 9), pt(3, -9), pt(3, 0), 0, true},
		{pt(2, 2), pt(2, 2), pt(2, 2), 0, true},
		{pt(2, 2), pt(2, 2), pt(2, 3), 0, false},
		{pt(-top, -top), pt(top, top), pt(-top, top), 1, false},
		{pt(-top, -top), pt(top, top), pt(top, -top), -1, false},
		{pt(-top, -top), pt(top, top), pt(0, 0), 0, true},
		{pt(-top, -top), pt(top, top), pt(0, 1), 1, false},
		{pt(-top, -top), pt(top, top-1), pt(top-1, top-2), -1, false},
		{pt(-top, -top), pt(top, top-1), pt(-top+1, -top+1), 1, false},
		{pt(-top, top), pt(top, -top), pt(top, -top), 0, true},
	} {
		if got, e := Turn(c.a, c.b, c.c); got != c.turn || e != api.OK {
			t.Errorf("Turn of %v, %v, %v: %d, %d", c.a, c.b, c.c, got, e)
		}
		if got, e := On(c.a, c.b, c.c); got != c.on || e != api.OK {
			t.Errorf("On of %v, %v, %v: %v, %d", c.a, c.b, c.c, got, e)
		}
	}
}

// grid returns the points with coordinates from 0 to size - 1.
func grid(size int) []api.Point {
	var list []api.Point
	for i := range size * size {
		list = append(list, pt(i/size, i%size))
	}
	return list
}

// lies tells by products whether p lies on the segment from a to b, for small numbers.
func lies(a, b, p api.Point) bool {
	across := (b.X-a.X)*(p.Y-a.Y) - (b.Y-a.Y)*(p.X-a.X)
	along := (a.X-p.X)*(b.X-p.X) + (a.Y-p.Y)*(b.Y-p.Y)
	return across == 0 && along <= 0
}

func TestTurnAndOnOfGrid(t *testing.T) {
	for _, a := range grid(5) {
		for _, b := range grid(5) {
			for _, p := range grid(5) {
				product := (b.X-a.X)*(p.Y-a.Y) - (b.Y-a.Y)*(p.X-a.X)
				turn, e := Turn(a, b, p)
				if e != api.OK || turn < -1 || turn > 1 || (turn > 0) != (product > 0) || (turn < 0) != (product < 0) {
					t.Fatalf("Turn of %v, %v, %v: %d, %d", a, b, p, turn, e)
				}
				if on, e := On(a, b, p); e != api.OK || on != lies(a, b, p) {
					t.Fatalf("On of %v, %v, %v: %v, %d", a, b, p, on, e)
				}
			}
		}
	}
}

// P3.5

func TestMeet(t *testing.T) {
	for _, c := range []struct {
		a, b, c, d api.Point
		want       int
	}{
		{pt(0, 0), pt(10, 10), pt(0, 10), pt(10, 0), 1},
		{pt(0, 0), pt(10, 0), pt(5, 0), pt(20, 0), 2},
		{pt(0, 0), pt(5, 0), pt(5, 0), pt(9, 0), 1},
		{pt(0, 0), pt(5, 0), pt(6, 0), pt(9, 0), 0},
		{pt(0, 0), pt(9, 0), pt(3, 0), pt(4, 0), 2},
		{pt(0, 0), pt(9, 0), pt(0, 0), pt(9, 0), 2},
		{pt(0, 0), pt(9, 0), pt(9, 0), pt(0, 0), 2},
		{pt(0, 0), pt(9, 0), pt(0, 1), pt(9, 1), 0},
		{pt(0, 0), pt(0, 9), pt(0, 3), pt(0, 12), 2},
		{pt(0, 0), pt(0, 3), pt(0, 3), pt(0, 12), 1},
		{pt(0, 0), pt(0, 3), pt(0, 4), pt(0, 12), 0},
		{pt(0, 0), pt(3, 3), pt(2, 2), pt(9, 9), 2},
		{pt(0, 0), pt(1, 1), pt(0, 1), pt(1, 0), 1},
		{pt(0, 0), pt(2, 1), pt(0, 1), pt(1, 0), 1},
		{pt(0, 0), pt(4, 0), pt(2, 0), pt(2, 5), 1},
		{pt(0, 0), pt(4, 0), pt(4, 0), pt(7, 5), 1},
		{pt(0, 0), pt(4, 0), pt(5, 0), pt(5, 5), 0},
		{pt(0, 0), pt(4, 0), pt(5, -1), pt(5, 5), 0},
		{pt(0, 0), pt(4, 0), pt(2, 1), pt(2, 5), 0},
		{pt(1, 1), pt(1, 1), pt(1, 1), pt(1, 1), 1},
		{pt(1, 1), pt(1, 1), pt(1, 2), pt(1, 2), 0},
		{pt(1, 1), pt(1, 1), pt(0, 0), pt(3, 3), 1},
		{pt(1, 1), pt(1, 1), pt(2, 2), pt(3, 3), 0},
		{pt(1, 1), pt(1, 1), pt(0, 0), pt(3, 2), 0},
		{pt(-top, -top), pt(top, top), pt(-top, top), pt(top, -top), 1},
		{pt(-top, -top), pt(top, top), pt(0, 0), pt(top, top), 2},
		{pt(-top, -top), pt(top, top-1), pt(-top+1, -top+1), pt(top, top), 0},
		{pt(-top, -top), pt(top, top-1), pt(-top, -top), pt(top, top), 1},
	} {
		if got, e := Meet(c.a, c.b, c.c, c.d); got != c.want || e != api.OK {
			t.Errorf("Meet of %v, %v and %v, %v: %d, %d; want %d", c.a, c.b, c.c, c.d, got, e, c.want)
		}
	}
}

func coprime(a, b int) bool {
	for n := 2; n <= b; n++ {
		if a%n == 0 && b%n == 0 {
			return false
		}
	}
	return true
}

// times returns the point p of a grid that is n times finer.
func times(p api.Point, n int) api.Point { return pt(p.X*n, p.Y*n) }

// common counts the points that two segments have in common, up to 2, by trying all points where segments of a grid of at most 4 points a side can meet or end: two such segments have a vector product of at most 18.
func common(a, b, c, d api.Point) int {
	if a == b {
		if lies(c, d, a) {
			return 1
		}
		return 0
	}
	count := 0
	for n := 1; n <= 18 && count < 2; n++ {
		for k := 0; k <= n && count < 2; k++ {
			p := pt(a.X*n+k*(b.X-a.X), a.Y*n+k*(b.Y-a.Y))
			if coprime(k, n) && lies(times(c, n), times(d, n), p) {
				count++
			}
		}
	}
	return count
}

func TestMeetOfGrid(t *testing.T) {
	points := grid(4)
	for _, a := range points {
		for _, b := range points {
			for _, c := range points {
				for _, d := range points {
					want := common(a, b, c, d)
					if got, e := Meet(a, b, c, d); got != want || e != api.OK {
						t.Fatalf("Meet of %v, %v and %v, %v: %d, %d; want %d", a, b, c, d, got, e, want)
					}
				}
			}
		}
	}
}

// P3.6

func TestAddAndSubAreInverse(t *testing.T) {
	r := rand.New(rand.NewSource(1))
	for range 2000 {
		a, b := randomVec(r, top/2), randomVec(r, top/2)
		sum, e := Add(a, b)
		back, e2 := Sub(sum, b)
		if e != api.OK || e2 != api.OK || back != a {
			t.Fatalf("Add and Sub of %v and %v: %v, %v", a, b, sum, back)
		}
	}
}

func TestCrossIsOrthogonal(t *testing.T) {
	r := rand.New(rand.NewSource(2))
	for range 2000 {
		a, b := randomVec(r, top), randomVec(r, top)
		c, e := Cross(a, b)
		back, e2 := Cross(b, a)
		// The sums are less than 2^63.
		if e != api.OK || c[0]*int64(a.X)+c[1]*int64(a.Y)+c[2]*int64(a.Z) != 0 || c[0]*int64(b.X)+c[1]*int64(b.Y)+c[2]*int64(b.Z) != 0 {
			t.Fatalf("Cross of %v and %v: %v, %d", a, b, c, e)
		}
		if e2 != api.OK || back != [3]int64{-c[0], -c[1], -c[2]} {
			t.Fatalf("Cross of %v and %v: %v, %v", a, b, c, back)
		}
	}
}

func TestTurnChangesItsSign(t *testing.T) {
	r := rand.New(rand.NewSource(3))
	for n := range 4000 {
		limit := 3
		if n%2 == 0 {
			limit = top
		}
		a, b, c := randomPoint(r, limit), randomPoint(r, limit), randomPoint(r, limit)
		turn, _ := Turn(a, b, c)
		first, _ := Turn(b, a, c)
		second, _ := Turn(a, c, b)
		third, _ := Turn(c, b, a)
		if first != -turn || second != -turn || third != -turn {
			t.Fatalf("Turn of %v, %v, %v: %d, %d, %d, %d", a, b, c, turn, first, second, third)
		}
	}
}

func TestPrimitiveOfPrimitive(t *testing.T) {
	r := rand.New(rand.NewSource(4))
	for range 2000 {
		a := randomVec(r, 1000)
		if a == v(0, 0, 0) {
			continue
		}
		k := r.Intn(1000) + 1
		first, factor, e := Primitive(v(a.X*k, a.Y*k, a.Z*k))
		again, one, e2 := Primitive(first)
		if e != api.OK || e2 != api.OK || again != first || one != 1 || factor%k != 0 {
			t.Fatalf("Primitive of %v times %d: %v, %d, then %v, %d", a, k, first, factor, again, one)
		}
	}
}

func TestOrderOfMeetDoesNotMatter(t *testing.T) {
	r := rand.New(rand.NewSource(5))
	for n := range 4000 {
		limit := 3
		if n%2 == 0 {
			limit = top
		}
		a, b, c, d := randomPoint(r, limit), randomPoint(r, limit), randomPoint(r, limit), randomPoint(r, limit)
		want, _ := Meet(a, b, c, d)
		for _, s := range [][4]api.Point{{b, a, c, d}, {a, b, d, c}, {b, a, d, c}, {c, d, a, b}, {d, c, a, b}, {c, d, b, a}, {d, c, b, a}} {
			if got, e := Meet(s[0], s[1], s[2], s[3]); got != want || e != api.OK {
				t.Fatalf("Meet of %v: %d, %d; want %d", s, got, e, want)
			}
		}
		on, _ := On(a, b, c)
		if point, _ := Meet(a, b, c, c); on != (point != 0) {
			t.Fatalf("On of %v, %v, %v: %v; Meet: %d", a, b, c, on, point)
		}
	}
}

// The errors (P1): every argument is looked at, and all other results are zero.

func TestErrorsOfVectors(t *testing.T) {
	good := v(1, 2, 3)
	for _, bad := range far {
		for _, args := range [][2]api.Vec{{bad, good}, {good, bad}, {bad, bad}} {
			a, b := args[0], args[1]
			if got, e := Add(a, b); got != v(0, 0, 0) || e != api.ErrRange {
				t.Errorf("Add of %v and %v: %v, %d", a, b, got, e)
			}
			if got, e := Sub(a, b); got != v(0, 0, 0) || e != api.ErrRange {
				t.Errorf("Sub of %v and %v: %v, %d", a, b, got, e)
			}
			if got, e := Dot(a, b); got != 0 || e != api.ErrRange {
				t.Errorf("Dot of %v and %v: %d, %d", a, b, got, e)
			}
			if got, e := Cross(a, b); got != [3]int64{} || e != api.ErrRange {
				t.Errorf("Cross of %v and %v: %v, %d", a, b, got, e)
			}
			if got, e := Distance(a, b); got != 0 || e != api.ErrRange {
				t.Errorf("Distance of %v and %v: %d, %d", a, b, got, e)
			}
		}
		if got, factor, e := Primitive(bad); got != v(0, 0, 0) || factor != 0 || e != api.ErrRange {
			t.Errorf("Primitive of %v: %v, %d, %d", bad, got, factor, e)
		}
	}
	if got, factor, e := Primitive(v(0, 0, 0)); got != v(0, 0, 0) || factor != 0 || e != api.ErrInvalid {
		t.Errorf("Primitive of the zero vector: %v, %d, %d", got, factor, e)
	}
}

// Even where the sum of arguments out of range is in range, they are refused.
func TestArgumentsBeforeResults(t *testing.T) {
	if got, e := Add(v(top+1, 0, 0), v(-1, 0, 0)); got != v(0, 0, 0) || e != api.ErrRange {
		t.Error("Add", got, e)
	}
	if got, e := Sub(v(0, top+1, 0), v(0, 1, 0)); got != v(0, 0, 0) || e != api.ErrRange {
		t.Error("Sub", got, e)
	}
	if got, e := Add(v(math.MinInt, 0, 0), v(math.MinInt, 0, 0)); got != v(0, 0, 0) || e != api.ErrRange {
		t.Error("Add", got, e)
	}
}

func TestErrorsOfPoints(t *testing.T) {
	for _, bad := range farPoints {
		for at := range 4 {
			p := [4]api.Point{pt(0, 0), pt(4, 4), pt(2, 2), pt(3, 3)}
			p[at] = bad
			if got, e := Meet(p[0], p[1], p[2], p[3]); got != 0 || e != api.ErrRange {
				t.Errorf("Meet of %v: %d, %d", p, got, e)
			}
			if at == 3 {
				continue
			}
			if got, e := Turn(p[0], p[1], p[2]); got != 0 || e != api.ErrRange {
				t.Errorf("Turn of %v: %d, %d", p, got, e)
			}
			if got, e := On(p[0], p[1], p[2]); got || e != api.ErrRange {
				t.Errorf("On of %v: %v, %d", p, got, e)
			}
		}
		if got, e := On(bad, bad, bad); got || e != api.ErrRange {
			t.Errorf("On of %v: %v, %d", bad, got, e)
		}
	}
}
