package fraction

import (
	"math"
	"math/big"
	"math/rand"
	"regexp"
	"strconv"
	"strings"
	"testing"

	"gangsaw/api"
)

const top = Bound - 1

func fr(num, den int64) api.Frac { return api.Frac{Num: num, Den: den} }

// impossible are values of type api.Frac that are no fractions.
var impossible = []api.Frac{
	{}, {Num: 1}, {Num: -1}, {Num: 0, Den: 2}, {Num: 0, Den: -1}, {Num: 0, Den: top}, {Num: 1, Den: -1}, {Num: -1, Den: -2},
	{Num: 2, Den: 4}, {Num: -2, Den: 4}, {Num: 4, Den: 2}, {Num: 6, Den: 9}, {Num: top, Den: 3}, {Num: top, Den: top},
	{Num: Bound, Den: 1}, {Num: -Bound, Den: 1}, {Num: 1, Den: Bound}, {Num: 1, Den: -Bound}, {Num: Bound + 1, Den: top}, {Num: Bound, Den: top},
	{Num: math.MaxInt64, Den: 1}, {Num: math.MinInt64, Den: 1}, {Num: math.MinInt64, Den: 3}, {Num: 1, Den: math.MaxInt64}, {Num: 1, Den: math.MinInt64},
	{Num: math.MinInt64, Den: math.MinInt64}, {Num: math.MaxInt64, Den: math.MinInt64}, {Num: 0, Den: math.MinInt64}, {Num: math.MinInt64, Den: 0},
}

// extreme are fractions with small terms, and with the greatest ones.
var extreme = []api.Frac{
	{Num: 0, Den: 1}, {Num: 1, Den: 1}, {Num: -1, Den: 1}, {Num: 1, Den: 2}, {Num: -3, Den: 2}, {Num: 7, Den: 3}, {Num: 2, Den: 1},
	{Num: top, Den: 1}, {Num: -top, Den: 1}, {Num: top - 1, Den: 1}, {Num: 1, Den: top}, {Num: -1, Den: top}, {Num: 1, Den: top - 1},
	{Num: top, Den: top - 1}, {Num: -top, Den: top - 1}, {Num: top - 1, Den: top}, {Num: 1 - top, Den: top}, {Num: top, Den: 2}, {Num: 2, Den: top},
	{Num: 1 << 59, Den: top}, {Num: top, Den: 1 << 59}, {Num: 5e17, Den: 1}, {Num: -5e17, Den: 1}, {Num: 1, Den: 5e17}, {Num: 999_999_999, Den: 1_000_000_000},
}

func rat(a api.Frac) *big.Rat { return big.NewRat(a.Num, a.Den) }

// ofRat returns the fraction of an exact number, or the error of one that is out of range.
func ofRat(x *big.Rat) (api.Frac, api.Errno) {
	limit := big.NewInt(Bound)
	if x.Num().CmpAbs(limit) >= 0 || x.Denom().Cmp(limit) >= 0 {
		return api.Frac{}, api.ErrRange
	}
	return fr(x.Num().Int64(), x.Denom().Int64()), api.OK
}

// randomFrac returns a fraction whose terms have any number of digits.
func randomFrac(r *rand.Rand) api.Frac {
	for {
		a := fr(r.Int63()>>r.Intn(63), r.Int63()>>r.Intn(63))
		if r.Intn(2) == 0 {
			a.Num = -a.Num
		}
		if a, e := New(a.Num, a.Den); e == api.OK {
			return a
		}
	}
}

// smallFracs returns all fractions with terms of at most the given size.
func smallFracs(size int64) []api.Frac {
	var list []api.Frac
	for den := int64(1); den <= size; den++ {
		for num := -size; num <= size; num++ {
			if new(big.Int).GCD(nil, nil, big.NewInt(max(num, -num)), big.NewInt(den)).Int64() == 1 {
				list = append(list, fr(num, den))
			}
		}
	}
	return list
}

func wantFrac(t *testing.T, what string, got api.Frac, e api.Errno, want api.Frac, wantError api.Errno) {
	t.Helper()
	if got != want || e != wantError {
		t.Errorf("%s: %v, %d; want %v, %d", what, got, e, want, wantError)
	}
}

// operation is one of the four functions of two fractions, with the exact one of package big.
type operation struct {
	name  string
	call  func(a, b api.Frac) (api.Frac, api.Errno)
	exact func(a, b *big.Rat) *big.Rat
}

func operations() []operation {
	return []operation{
		{"Add", Add, func(a, b *big.Rat) *big.Rat { return a.Add(a, b) }},
		{"Sub", Sub, func(a, b *big.Rat) *big.Rat { return a.Sub(a, b) }},
		{"Mul", Mul, func(a, b *big.Rat) *big.Rat { return a.Mul(a, b) }},
		{"Div", Div, func(a, b *big.Rat) *big.Rat { return a.Quo(a, b) }},
	}
}

func TestBound(t *testing.T) {
	if Bound != 1_000_000_000_000_000_000 {
		t.Error(int64(Bound))
	}
}

// P4.1

func TestValid(t *testing.T) {
	for _, a := range impossible {
		if Valid(a) {
			t.Errorf("Valid accepts %v", a)
		}
	}
	for _, a := range extreme {
		if !Valid(a) {
			t.Errorf("Valid refuses %v", a)
		}
	}
	count := 0
	for num := int64(-9); num <= 9; num++ {
		for den := int64(-1); den <= 9; den++ {
			if Valid(fr(num, den)) {
				count++
			}
		}
	}
	if want := len(smallFracs(9)); count != want {
		t.Errorf("%d small fractions; want %d", count, want)
	}
}

func TestNew(t *testing.T) {
	for _, c := range []struct {
		num, den int64
		want     api.Frac
		e        api.Errno
	}{
		{6, -4, fr(-3, 2), api.OK},
		{5, 2, fr(5, 2), api.OK},
		{-5, -2, fr(5, 2), api.OK},
		{0, 7, fr(0, 1), api.OK},
		{0, -7, fr(0, 1), api.OK},
		{0, math.MinInt64, fr(0, 1), api.OK},
		{math.MinInt64, math.MinInt64, fr(1, 1), api.OK},
		{math.MaxInt64, math.MaxInt64, fr(1, 1), api.OK},
		{-math.MaxInt64, math.MaxInt64, fr(-1, 1), api.OK},
		{math.MinInt64, 1 << 62, fr(-2, 1), api.OK},
		{1 << 62, math.MinInt64, fr(-1, 2), api.OK},
		{math.MinInt64, 16, fr(-(1 << 59), 1), api.OK},
		{math.MinInt64, -24, fr(1<<60, 3), api.ErrRange},
		{math.MinInt64, -48, fr(1<<59, 3), api.OK},
		{top, 1, fr(top, 1), api.OK},
		{-top, 1, fr(-top, 1), api.OK},
		{1, top, fr(1, top), api.OK},
		{1, -top, fr(-1, top), api.OK},
		{2 * top, 2, fr(top, 1), api.OK},
		{2, -2 * top, fr(-1, top), api.OK},
		{Bound, 2, fr(Bound/2, 1), api.OK},
		{Bound, 1, api.Frac{}, api.ErrRange},
		{-Bound, 1, api.Frac{}, api.ErrRange},
		{1, Bound, api.Frac{}, api.ErrRange},
		{1, -Bound, api.Frac{}, api.ErrRange},
		{Bound, top, api.Frac{}, api.ErrRange},
		{math.MaxInt64, 1, api.Frac{}, api.ErrRange},
		{math.MinInt64, 1, api.Frac{}, api.ErrRange},
		{math.MinInt64, -1, api.Frac{}, api.ErrRange},
		{1, math.MinInt64, api.Frac{}, api.ErrRange},
		{-1, math.MinInt64, api.Frac{}, api.ErrRange},
		{math.MinInt64, math.MaxInt64, api.Frac{}, api.ErrRange},
		{0, 0, api.Frac{}, api.ErrInvalid},
		{1, 0, api.Frac{}, api.ErrInvalid},
		{Bound, 0, api.Frac{}, api.ErrInvalid},
		{math.MinInt64, 0, api.Frac{}, api.ErrInvalid},
	} {
		if c.e != api.OK {
			c.want = api.Frac{}
		}
		got, e := New(c.num, c.den)
		wantFrac(t, "New", got, e, c.want, c.e)
	}
}

func TestNewOfRandomNumbers(t *testing.T) {
	r := rand.New(rand.NewSource(1))
	for range 5000 {
		num, den := int64(r.Uint64())>>r.Intn(64), int64(r.Uint64())>>r.Intn(62)
		if den == 0 {
			continue
		}
		want, wantError := ofRat(big.NewRat(num, den))
		got, e := New(num, den)
		wantFrac(t, "New", got, e, want, wantError)
	}
}

// P4.2

func TestExamplesOfOperations(t *testing.T) {
	got, e := Add(fr(1, 3), fr(1, 6))
	wantFrac(t, "1/3 + 1/6", got, e, fr(1, 2), api.OK)
	got, e = Sub(fr(1, 3), fr(1, 2))
	wantFrac(t, "1/3 - 1/2", got, e, fr(-1, 6), api.OK)
	got, e = Mul(fr(-2, 3), fr(9, 4))
	wantFrac(t, "-2/3 * 9/4", got, e, fr(-3, 2), api.OK)
	got, e = Div(fr(1, 3), fr(2, 3))
	wantFrac(t, "1/3 / (2/3)", got, e, fr(1, 2), api.OK)
	got, e = Div(fr(1, 3), fr(-2, 3))
	wantFrac(t, "1/3 / (-2/3)", got, e, fr(-1, 2), api.OK)
	got, e = Power(fr(2, 3), 3)
	wantFrac(t, "(2/3)^3", got, e, fr(8, 27), api.OK)
}

func wantOperations(t *testing.T, a, b api.Frac) {
	t.Helper()
	for _, o := range operations() {
		if o.name == "Div" && b.Num == 0 {
			continue
		}
		want, wantError := ofRat(o.exact(rat(a), rat(b)))
		if got, e := o.call(a, b); got != want || e != wantError {
			t.Fatalf("%s of %v and %v: %v, %d; want %v, %d", o.name, a, b, got, e, want, wantError)
		}
	}
}

func TestOperationsOfSmallFractions(t *testing.T) {
	list := smallFracs(8)
	for _, a := range list {
		for _, b := range list {
			wantOperations(t, a, b)
		}
	}
}

func TestOperationsOfExtremeFractions(t *testing.T) {
	for _, a := range extreme {
		for _, b := range extreme {
			wantOperations(t, a, b)
		}
	}
}

// Random terms alone seldom have a common factor, so that results in range are rare; the shared factors of the second half make them frequent.
func TestOperationsOfRandomFractions(t *testing.T) {
	r := rand.New(rand.NewSource(2))
	for range 5000 {
		a, b := randomFrac(r), randomFrac(r)
		wantOperations(t, a, b)
		shared := r.Int63n(1_000_000_000) + 1
		c, e := New(r.Int63n(Bound), shared*(r.Int63n(1000)+1))
		d, e2 := New(-r.Int63n(Bound), shared*(r.Int63n(1000)+1))
		if e == api.OK && e2 == api.OK {
			wantOperations(t, c, d)
		}
	}
}

// x / (g p) and y / (g q) with x q + y p = g w: the sum has more than 64 bits, but its fraction has small terms.
func TestGreatSumsThatCancel(t *testing.T) {
	r := rand.New(rand.NewSource(7))
	const p, q = 1009, 1013
	for range 200 {
		g, w := r.Int63n(900_000_000_000_000)+1, r.Int63n(1_000_000)+1
		a := fr(r.Int63n(Bound/2), g*p)
		y := new(big.Int)
		for rest := big.NewInt(1); rest.Sign() != 0; a.Num++ {
			y.Sub(new(big.Int).Mul(big.NewInt(g), big.NewInt(w)), new(big.Int).Mul(big.NewInt(a.Num), big.NewInt(q)))
			y.QuoRem(y, big.NewInt(p), rest)
		}
		a, e := New(a.Num-1, a.Den)
		b, e2 := New(y.Int64(), g*q)
		if e != api.OK || e2 != api.OK || !y.IsInt64() {
			t.Fatal(a, y, e, e2)
		}
		want, _ := New(w, p*q)
		got, e := Add(a, b)
		wantFrac(t, "Add", got, e, want, api.OK)
		got, e = Sub(a, fr(-b.Num, b.Den))
		wantFrac(t, "Sub", got, e, want, api.OK)
	}
}

func TestGreatTermsThatCancel(t *testing.T) {
	half := fr(Bound/4+1, Bound/2)
	got, e := Add(half, fr(Bound/4-1, Bound/2))
	wantFrac(t, "Add", got, e, fr(1, 1), api.OK)
	got, e = Sub(half, half)
	wantFrac(t, "Sub", got, e, fr(0, 1), api.OK)
	got, e = Mul(fr(top, top-1), fr(top-1, top))
	wantFrac(t, "Mul", got, e, fr(1, 1), api.OK)
	got, e = Div(fr(-top, top-1), fr(top, top-1))
	wantFrac(t, "Div", got, e, fr(-1, 1), api.OK)
	got, e = Add(fr(top, top-1), fr(-top, top-1))
	wantFrac(t, "Add", got, e, fr(0, 1), api.OK)
}

func TestPower(t *testing.T) {
	list := append(smallFracs(4), extreme...)
	list = append(list, fr(999_999_999, 1), fr(1_000_000_000, 1), fr(-999_999, 999_998), fr(1, 1_000_000_000))
	for _, a := range list {
		product := big.NewRat(1, 1)
		for n := range 65 {
			want, wantError := ofRat(product)
			if got, e := Power(a, n); got != want || e != wantError {
				t.Fatalf("Power of %v and %d: %v, %d; want %v, %d", a, n, got, e, want, wantError)
			}
			product.Mul(product, rat(a))
		}
	}
}

// P4.3

func TestCmp(t *testing.T) {
	list := append(smallFracs(8), extreme...)
	r := rand.New(rand.NewSource(3))
	for range 100 {
		list = append(list, randomFrac(r))
	}
	for _, a := range list {
		for _, b := range list {
			if c := Cmp(a, b); c != rat(a).Cmp(rat(b)) {
				t.Fatalf("Cmp of %v and %v: %d", a, b, c)
			}
		}
	}
}

func TestFloorAndRound(t *testing.T) {
	for _, c := range []struct {
		in           api.Frac
		floor, round int64
	}{
		{fr(-3, 2), -2, -2}, {fr(5, 2), 2, 3}, {fr(-5, 2), -3, -3}, {fr(0, 1), 0, 0}, {fr(7, 1), 7, 7}, {fr(-7, 1), -7, -7},
		{fr(1, 2), 0, 1}, {fr(-1, 2), -1, -1}, {fr(1, 3), 0, 0}, {fr(2, 3), 0, 1}, {fr(-1, 3), -1, 0}, {fr(-2, 3), -1, -1},
		{fr(49, 100), 0, 0}, {fr(-49, 100), -1, 0}, {fr(51, 100), 0, 1}, {fr(-51, 100), -1, -1}, {fr(4, 3), 1, 1}, {fr(-4, 3), -2, -1},
		{fr(top, 1), top, top}, {fr(-top, 1), -top, -top}, {fr(1, top), 0, 0}, {fr(-1, top), -1, 0},
		{fr(top, 2), Bound/2 - 1, Bound / 2}, {fr(-top, 2), -Bound / 2, -Bound / 2},
		{fr(top-1, top), 0, 1}, {fr(1-top, top), -1, -1}, {fr(top, top-1), 1, 1}, {fr(-top, top-1), -2, -1},
		{fr(Bound/2-1, top), 0, 0}, {fr(Bound/2, top), 0, 1}, {fr(1-Bound/2, top), -1, 0}, {fr(-Bound/2, top), -1, -1},
	} {
		if n := Floor(c.in); n != c.floor {
			t.Errorf("Floor of %v: %d; want %d", c.in, n, c.floor)
		}
		if n := Round(c.in); n != c.round {
			t.Errorf("Round of %v: %d; want %d", c.in, n, c.round)
		}
	}
}

func TestFloorAndRoundOfSmallFractions(t *testing.T) {
	for _, a := range smallFracs(30) {
		if n := Floor(a); n*a.Den > a.Num || (n+1)*a.Den <= a.Num {
			t.Errorf("Floor of %v: %d", a, n)
		}
		n := Round(a)
		away, size := 2*max(n*a.Den-a.Num, a.Num-n*a.Den), max(n, -n)*a.Den
		if away > a.Den || away == a.Den && size < max(a.Num, -a.Num) {
			t.Errorf("Round of %v: %d", a, n)
		}
	}
}

func TestValuesOfNoFractions(t *testing.T) {
	for _, a := range impossible {
		if Floor(a) != 0 || Round(a) != 0 {
			t.Errorf("Floor and Round of %v: %d, %d", a, Floor(a), Round(a))
		}
		for _, b := range append(extreme, impossible...) {
			if Cmp(a, b) != 0 || Cmp(b, a) != 0 {
				t.Errorf("Cmp of %v and %v", a, b)
			}
		}
	}
}

// P4.4

func TestSimplest(t *testing.T) {
	for _, c := range []struct {
		a, b, want api.Frac
	}{
		{fr(3, 10), fr(2, 5), fr(1, 3)},
		{fr(9, 10), fr(11, 10), fr(1, 1)},
		{fr(-7, 2), fr(-3, 2), fr(-2, 1)},
		{fr(-1, 1), fr(5, 1), fr(0, 1)},
		{fr(0, 1), fr(5, 1), fr(0, 1)},
		{fr(-5, 1), fr(0, 1), fr(0, 1)},
		{fr(1, 1), fr(5, 1), fr(1, 1)},
		{fr(-5, 1), fr(-1, 1), fr(-1, 1)},
		{fr(1, 3), fr(1, 1), fr(1, 1)},
		{fr(5, 2), fr(3, 1), fr(3, 1)},
		{fr(5, 2), fr(14, 5), fr(5, 2)},
		{fr(12, 5), fr(5, 2), fr(5, 2)},
		{fr(-14, 5), fr(-5, 2), fr(-5, 2)},
		{fr(157, 50), fr(63, 20), fr(22, 7)},
		{fr(392_699, 125_000), fr(3_141_593, 1_000_000), fr(355, 113)},
		{fr(1, top), fr(1, top-1), fr(1, top-1)},
		{fr(top-1, top), fr(top, top-1), fr(1, 1)},
		{fr(top, top-1), fr(2, 1), fr(2, 1)},
		{fr(top-2, top), fr(top-1, top), fr(top/2, top/2+1)},
		{fr(-1, top-1), fr(-1, top), fr(-1, top-1)},
		{fr(top-1, 1), fr(top, 1), fr(top-1, 1)},
		{fr(-top, 1), fr(1-top, 1), fr(1-top, 1)},
		{fr(-top, 1), fr(top, 1), fr(0, 1)},
		// The numbers 85, 86 and 87 of Fibonacci's: the longest continued fractions in range.
		{fr(fib86, fib85), fr(fib86, fib85), fr(fib86, fib85)},
		{fr(fib86, fib85), fr(fib87, fib86), fr(fib86, fib85)},
		{fr(-fib87, fib86), fr(-fib86, fib85), fr(-fib86, fib85)},
	} {
		got, e := Simplest(c.a, c.b)
		wantFrac(t, "Simplest", got, e, c.want, api.OK)
	}
}

const (
	fib85 = 259_695_496_911_122_585
	fib86 = 420_196_140_727_489_673
	fib87 = fib85 + fib86
)

// leastDen looks for the simplest fraction from -9 to 9 by trying all denominators, and for each of them the numerators from 0.
func leastDen(a, b api.Frac) api.Frac {
	for den := int64(1); ; den++ {
		for num := int64(0); num <= 9*den; num++ {
			for _, x := range []api.Frac{fr(num, den), fr(-num, den)} {
				if a.Num*den <= x.Num*a.Den && x.Num*b.Den <= b.Num*den {
					return x
				}
			}
		}
	}
}

func TestSimplestOfSmallFractions(t *testing.T) {
	list := smallFracs(9)
	for _, a := range list {
		for _, b := range list {
			got, e := Simplest(a, b)
			if Cmp(a, b) > 0 {
				wantFrac(t, "Simplest", got, e, api.Frac{}, api.ErrInvalid)
			} else if want := leastDen(a, b); got != want || e != api.OK {
				t.Fatalf("Simplest of %v and %v: %v, %d; want %v", a, b, got, e, want)
			}
		}
	}
}

// between goes down the tree of Stern and Brocot, whose first fraction in a range above 0 has the least terms of all in it. It makes steps of any size at once.
func between(a, b *big.Rat) *big.Rat {
	whole := new(big.Int).Div(a.Num(), a.Denom())
	if a.IsInt() {
		return a
	}
	up := new(big.Rat).SetInt(new(big.Int).Add(whole, big.NewInt(1)))
	if up.Cmp(b) <= 0 {
		return up
	}
	down := new(big.Rat).SetInt(whole)
	low, high := new(big.Rat).Sub(a, down), new(big.Rat).Sub(b, down)
	inner := between(high.Inv(high), low.Inv(low))
	return down.Add(down, inner.Inv(inner))
}

func TestSimplestOfRandomFractions(t *testing.T) {
	r := rand.New(rand.NewSource(4))
	for range 5000 {
		a := randomFrac(r)
		b, e := Add(a, fr(1, r.Int63()>>r.Intn(62)|1))
		if e != api.OK {
			b = randomFrac(r)
		}
		a.Num, b.Num = max(a.Num, -a.Num), max(b.Num, -b.Num)
		if Cmp(a, b) > 0 {
			a, b = b, a
		}
		if a.Num == 0 {
			continue
		}
		want, _ := ofRat(between(rat(a), rat(b)))
		got, e := Simplest(a, b)
		wantFrac(t, "Simplest", got, e, want, api.OK)
		got, e = Simplest(fr(-b.Num, b.Den), fr(-a.Num, a.Den))
		wantFrac(t, "Simplest", got, e, fr(-want.Num, want.Den), api.OK)
	}
}

// P4.5

func TestTextAndParse(t *testing.T) {
	for text, a := range map[string]api.Frac{
		"-3/2": fr(-3, 2), "0": fr(0, 1), "7": fr(7, 1), "-7": fr(-7, 1), "1/2": fr(1, 2), "10/7": fr(10, 7), "-1/10": fr(-1, 10),
		"999999999999999999": fr(top, 1), "-999999999999999999": fr(-top, 1), "1/999999999999999999": fr(1, top), "-999999999999999998/999999999999999999": fr(1-top, top),
	} {
		if s, e := Text(a); s != text || e != api.OK {
			t.Errorf("Text of %v: %q, %d; want %q", a, s, e, text)
		}
		got, e := Parse(text)
		wantFrac(t, "Parse of "+text, got, e, a, api.OK)
	}
}

var misspelt = []string{
	"", " ", "-", "/", "-/", "--1", "+1", "+1/2", "1/+2", "-0", "-0/1", "0/1", "0/2", "00", "01", "02", "-01", "1/02", "01/2", "2/4", "1/1", "-1/1", "5/1", "3/3", "1/0", "0/0", "1/-2", "-1/-2", "1/-1",
	"1/", "/2", "1//2", "1/2/3", "1/2/", "/1/2", "1 /2", "1/ 2", " 1/2", "1/2 ", "1\n", "1/2\x00", "\x001", "1_000", "1_000/7", "0x10", "0b1", "0o7", "1e3", "1.5", "1,5", "a", "a/b", "1/b", "Inf", "NaN",
	"1000000000000000000", "-1000000000000000000", "1/1000000000000000000", "9223372036854775807", "-9223372036854775808", "1/9223372036854775807", "1/9223372036854775808", "18446744073709551617", "1/18446744073709551618", "-18446744073709551615/2",
	"\u00bd", "\u0661", "\uff11", "\u22121", "1\u20442", "\xff", strings.Repeat("1", 19), strings.Repeat("9", 10_000), "1/" + strings.Repeat("9", 10_000), strings.Repeat("0", 10_000) + "1",
}

func TestParseOfNoTexts(t *testing.T) {
	for _, s := range misspelt {
		if got, e := Parse(s); got != (api.Frac{}) || e != api.ErrSyntax {
			t.Errorf("Parse of %.40q: %v, %d", s, got, e)
		}
	}
}

var spelling = regexp.MustCompile(`^(0|-?[1-9][0-9]*)(?:/([1-9][0-9]*))?$`)

// isText tells from the letters of a short string whether it is the text of a fraction.
func isText(s string) bool {
	parts := spelling.FindStringSubmatch(s)
	if parts == nil || parts[2] == "" {
		return parts != nil
	}
	num, _ := strconv.Atoi(parts[1])
	den, _ := strconv.Atoi(parts[2])
	return den > 1 && coprime(num, den)
}

func coprime(a, b int) bool {
	for n := 2; n <= b; n++ {
		if a%n == 0 && b%n == 0 {
			return false
		}
	}
	return true
}

// Of all short strings of these letters, Parse takes exactly the texts of fractions.
func TestParseOfShortStrings(t *testing.T) {
	count := 0
	var visit func(s string)
	visit = func(s string) {
		a, e := Parse(s)
		again, e2 := Text(a)
		switch {
		case isText(s) && (e != api.OK || e2 != api.OK || again != s):
			t.Fatalf("Parse of %q: %v, %d", s, a, e)
		case !isText(s) && (e != api.ErrSyntax || a != api.Frac{}):
			t.Fatalf("Parse of %q: %v, %d", s, a, e)
		case e == api.OK:
			count++
		}
		if len(s) == 5 {
			return
		}
		for _, letter := range []string{"-", "+", "/", "0", "1", "2", "4", "9"} {
			visit(s + letter)
		}
	}
	visit("")
	if count < 1000 {
		t.Error(count)
	}
}

func TestTextsOfRandomFractions(t *testing.T) {
	r := rand.New(rand.NewSource(5))
	for range 5000 {
		a := randomFrac(r)
		s, e := Text(a)
		if e != api.OK || strings.TrimSuffix(rat(a).String(), "/1") != s {
			t.Fatalf("Text of %v: %q, %d", a, s, e)
		}
		got, e := Parse(s)
		wantFrac(t, "Parse of "+s, got, e, a, api.OK)
	}
}

// P4.6

func TestLawsOfAddAndMul(t *testing.T) {
	list := smallFracs(4)
	must := func(a api.Frac, e api.Errno) api.Frac {
		if e != api.OK {
			t.Fatal(e)
		}
		return a
	}
	for _, a := range list {
		for _, b := range list {
			if must(Add(a, b)) != must(Add(b, a)) || must(Mul(a, b)) != must(Mul(b, a)) {
				t.Fatalf("%v and %v do not commute", a, b)
			}
			if must(Sub(must(Add(a, b)), b)) != a || b.Num != 0 && must(Div(must(Mul(a, b)), b)) != a {
				t.Fatalf("Sub or Div does not undo Add or Mul of %v and %v", a, b)
			}
			for _, c := range list {
				if must(Add(must(Add(a, b)), c)) != must(Add(a, must(Add(b, c)))) || must(Mul(must(Mul(a, b)), c)) != must(Mul(a, must(Mul(b, c)))) {
					t.Fatalf("%v, %v and %v do not associate", a, b, c)
				}
				if must(Mul(must(Add(a, b)), c)) != must(Add(must(Mul(a, c)), must(Mul(b, c)))) {
					t.Fatalf("%v, %v and %v do not distribute", a, b, c)
				}
				if Cmp(a, b) != Cmp(must(Add(a, c)), must(Add(b, c))) {
					t.Fatalf("Add of %v changes the order of %v and %v", c, a, b)
				}
			}
		}
	}
}

func TestLawsOfGreatFractions(t *testing.T) {
	r := rand.New(rand.NewSource(6))
	done := 0
	for range 20_000 {
		a, b := randomFrac(r), randomFrac(r)
		if sum, e := Add(a, b); e == api.OK {
			back, e := Sub(sum, b)
			wantFrac(t, "Sub of Add", back, e, a, api.OK)
			if Cmp(sum, a) != Cmp(b, fr(0, 1)) {
				t.Fatalf("the order of %v and its sum with %v", a, b)
			}
			done++
		}
		if product, e := Mul(a, b); e == api.OK && b.Num != 0 {
			back, e := Div(product, b)
			wantFrac(t, "Div of Mul", back, e, a, api.OK)
		}
		if Cmp(a, b) != -Cmp(b, a) || Cmp(a, a) != 0 {
			t.Fatalf("Cmp of %v and %v", a, b)
		}
	}
	if done < 1000 {
		t.Error(done)
	}
}

func TestSimplestOfEqualAndOfWiderRanges(t *testing.T) {
	for _, a := range append(smallFracs(6), extreme...) {
		got, e := Simplest(a, a)
		wantFrac(t, "Simplest", got, e, a, api.OK)
	}
	list := smallFracs(4)
	for _, a := range list {
		for _, b := range list {
			if Cmp(a, b) > 0 {
				continue
			}
			inner, _ := Simplest(a, b)
			for _, c := range list {
				if low, _ := Simplest(c, b); Cmp(c, a) <= 0 && low.Den > inner.Den {
					t.Fatalf("Simplest of %v and %v: %v, of %v and %v: %v", a, b, inner, c, b, low)
				}
				if high, _ := Simplest(a, c); Cmp(b, c) <= 0 && high.Den > inner.Den {
					t.Fatalf("Simplest of %v and %v: %v, of %v and %v: %v", a, b, inner, a, c, high)
				}
			}
		}
	}
}

// The errors, in their order (P1).

func TestErrorsOfNoFractions(t *testing.T) {
	for _, bad := range impossible {
		for _, good := range append(extreme, impossible...) {
			for _, o := range operations() {
				got, e := o.call(bad, good)
				wantFrac(t, o.name, got, e, api.Frac{}, api.ErrInvalid)
				got, e = o.call(good, bad)
				wantFrac(t, o.name, got, e, api.Frac{}, api.ErrInvalid)
			}
			got, e := Simplest(bad, good)
			wantFrac(t, "Simplest", got, e, api.Frac{}, api.ErrInvalid)
			got, e = Simplest(good, bad)
			wantFrac(t, "Simplest", got, e, api.Frac{}, api.ErrInvalid)
		}
		for _, n := range []int{math.MinInt, -1, 0, 1, 64, 65, math.MaxInt} {
			got, e := Power(bad, n)
			wantFrac(t, "Power", got, e, api.Frac{}, api.ErrInvalid)
		}
		if s, e := Text(bad); s != "" || e != api.ErrInvalid {
			t.Errorf("Text of %v: %q, %d", bad, s, e)
		}
	}
}

func TestErrorsOfFractions(t *testing.T) {
	for _, a := range extreme {
		got, e := Div(a, fr(0, 1))
		wantFrac(t, "Div", got, e, api.Frac{}, api.ErrInvalid)
		for _, n := range []int{math.MinInt, -1, 65, math.MaxInt} {
			got, e := Power(a, n)
			wantFrac(t, "Power", got, e, api.Frac{}, api.ErrInvalid)
		}
		for _, b := range extreme {
			if Cmp(a, b) > 0 {
				got, e := Simplest(a, b)
				wantFrac(t, "Simplest", got, e, api.Frac{}, api.ErrInvalid)
			}
		}
	}
}
