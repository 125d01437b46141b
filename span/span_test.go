package span

import (
	"math"
	"math/rand"
	"slices"
	"testing"

	"gangsaw/api"
)

func in(lo, hi int) api.Interval { return api.Interval{Lo: lo, Hi: hi} }

func wantInterval(t *testing.T, what string, got api.Interval, e api.Errno, want api.Interval, wantError api.Errno) {
	t.Helper()
	if got != want || e != wantError {
		t.Errorf("%s: %v, %d; want %v, %d", what, got, e, want, wantError)
	}
}

func wantList(t *testing.T, what string, got []api.Interval, e api.Errno, want ...api.Interval) {
	t.Helper()
	if e != api.OK || !slices.Equal(got, want) {
		t.Errorf("%s: %v, %d; want %v", what, got, e, want)
	}
}

// The pair functions and the list functions with one shape each, so that the tests can go through all of them.
type pairFunction struct {
	name string
	call func(a, b api.Interval) (api.Interval, api.Errno)
}

type listsFunction struct {
	name string
	call func(a, b []api.Interval) ([]api.Interval, api.Errno)
	// has tells whether a number belongs to the result, from whether it belongs to a and to b.
	has func(inA, inB bool) bool
}

var pairFunctions = []pairFunction{{"Add", Add}, {"Sub", Sub}, {"Intersect", Intersect}, {"Hull", Hull}}

var listsFunctions = []listsFunction{
	{"Union", Union, func(inA, inB bool) bool { return inA || inB }},
	{"Minus", Minus, func(inA, inB bool) bool { return inA && !inB }},
	{"Common", Common, func(inA, inB bool) bool { return inA && inB }},
	{"Normalize", func(a, b []api.Interval) ([]api.Interval, api.Errno) {
		return Normalize(append(slices.Clone(a), b...))
	}, func(inA, inB bool) bool { return inA || inB }},
}

func TestConstants(t *testing.T) {
	if MaxNumber != 1_000_000_000_000 || MaxList != 10_000 {
		t.Error(MaxNumber, MaxList)
	}
}

// P1.1

var checkCases = []struct {
	in   api.Interval
	want api.Errno
}{
	{in(0, 0), api.OK},
	{in(-3, 5), api.OK},
	{in(-MaxNumber, MaxNumber), api.OK},
	{in(MaxNumber, MaxNumber), api.OK},
	{in(-MaxNumber, -MaxNumber), api.OK},
	{in(1, 0), api.ErrInvalid},
	{in(MaxNumber, -MaxNumber), api.ErrInvalid},
	{in(-MaxNumber-1, 0), api.ErrRange},
	{in(0, MaxNumber+1), api.ErrRange},
	{in(MaxNumber+1, MaxNumber+1), api.ErrRange},
	{in(-MaxNumber-1, -MaxNumber-1), api.ErrRange},
	{in(MaxNumber+1, 0), api.ErrRange},
	{in(0, -MaxNumber-1), api.ErrRange},
	{in(math.MinInt, math.MaxInt), api.ErrRange},
	{in(math.MaxInt, math.MinInt), api.ErrRange},
}

func TestCheck(t *testing.T) {
	for _, c := range checkCases {
		if e := Check(c.in); e != c.want {
			t.Errorf("Check of %v: %d; want %d", c.in, e, c.want)
		}
	}
}

func TestLength(t *testing.T) {
	for _, c := range checkCases {
		want := 0
		if c.want == api.OK {
			want = c.in.Hi - c.in.Lo + 1
		}
		if n := Length(c.in); n != want {
			t.Errorf("Length of %v: %d; want %d", c.in, n, want)
		}
	}
	if n := Length(in(-MaxNumber, MaxNumber)); n != 2_000_000_000_001 {
		t.Error(n)
	}
}

func TestContains(t *testing.T) {
	for _, c := range []struct {
		in   api.Interval
		n    int
		want bool
	}{
		{in(1, 3), 0, false}, {in(1, 3), 1, true}, {in(1, 3), 2, true}, {in(1, 3), 3, true}, {in(1, 3), 4, false},
		{in(3, 1), 2, false}, {in(3, 1), 1, false}, {in(3, 1), 3, false},
		{in(math.MinInt, math.MaxInt), math.MinInt, true}, {in(math.MinInt, math.MaxInt), math.MaxInt, true},
		{in(0, math.MaxInt), -1, false}, {in(MaxNumber+1, MaxNumber+2), MaxNumber + 2, true},
	} {
		if Contains(c.in, c.n) != c.want {
			t.Errorf("Contains of %v and %d is not %v", c.in, c.n, c.want)
		}
	}
}

func TestWithinOfSmallIntervals(t *testing.T) {
	for code := range 6 * 6 * 6 * 6 {
		a, b := in(code%6, code/6%6), in(code/36%6, code/216)
		want := true
		for n := range 6 {
			if Contains(a, n) && !Contains(b, n) {
				want = false
			}
		}
		if Within(a, b) != want {
			t.Errorf("Within of %v and %v is not %v", a, b, want)
		}
	}
}

func TestWithinOfGreatIntervals(t *testing.T) {
	for _, c := range []struct {
		a, b api.Interval
		want bool
	}{
		{in(math.MinInt, math.MaxInt), in(math.MinInt, math.MaxInt), true},
		{in(math.MinInt, math.MaxInt), in(math.MinInt+1, math.MaxInt), false},
		{in(math.MinInt, math.MaxInt), in(math.MinInt, math.MaxInt-1), false},
		{in(math.MaxInt, math.MinInt), in(5, 5), true},
		{in(math.MaxInt, math.MinInt), in(1, 0), true},
		{in(5, 5), in(math.MaxInt, math.MinInt), false},
		{in(MaxNumber+1, MaxNumber+2), in(0, MaxNumber+2), true},
	} {
		if Within(c.a, c.b) != c.want {
			t.Errorf("Within of %v and %v is not %v", c.a, c.b, c.want)
		}
	}
}

// P1.2

func TestAddAndSub(t *testing.T) {
	for _, c := range []struct {
		a, b, add, sub api.Interval
	}{
		{in(1, 3), in(10, 20), in(11, 23), in(-19, -7)},
		{in(0, 0), in(0, 0), in(0, 0), in(0, 0)},
		{in(-5, 2), in(-1, 7), in(-6, 9), in(-12, 3)},
		{in(MaxNumber, MaxNumber), in(0, 0), in(MaxNumber, MaxNumber), in(MaxNumber, MaxNumber)},
		{in(-MaxNumber, MaxNumber), in(0, 0), in(-MaxNumber, MaxNumber), in(-MaxNumber, MaxNumber)},
		{in(1, MaxNumber-1), in(-1, 1), in(0, MaxNumber), in(0, MaxNumber)},
	} {
		sum, e := Add(c.a, c.b)
		wantInterval(t, "Add", sum, e, c.add, api.OK)
		difference, e := Sub(c.a, c.b)
		wantInterval(t, "Sub", difference, e, c.sub, api.OK)
	}
}

func TestAddAndSubOutOfRange(t *testing.T) {
	for _, c := range []struct {
		a, b api.Interval
	}{
		{in(0, MaxNumber), in(0, 1)},
		{in(MaxNumber, MaxNumber), in(1, 1)},
		{in(-MaxNumber, 0), in(-1, 0)},
		{in(-MaxNumber, MaxNumber), in(-MaxNumber, MaxNumber)},
		{in(MaxNumber, MaxNumber), in(MaxNumber, MaxNumber)},
		{in(-MaxNumber, -MaxNumber), in(-MaxNumber, -MaxNumber)},
	} {
		sum, e := Add(c.a, c.b)
		wantInterval(t, "Add", sum, e, api.Interval{}, api.ErrRange)
		difference, e := Sub(c.a, in(-c.b.Hi, -c.b.Lo))
		wantInterval(t, "Sub", difference, e, api.Interval{}, api.ErrRange)
	}
}

func TestSum(t *testing.T) {
	many := make([]api.Interval, MaxList)
	for i := range many {
		many[i] = in(-MaxNumber, MaxNumber/MaxList)
		if i%2 == 0 {
			many[i] = in(MaxNumber, MaxNumber)
		}
	}
	for _, c := range []struct {
		list []api.Interval
		want api.Interval
		e    api.Errno
	}{
		{nil, in(0, 0), api.OK},
		{[]api.Interval{}, in(0, 0), api.OK},
		{[]api.Interval{in(-4, 9)}, in(-4, 9), api.OK},
		{[]api.Interval{in(1, 2), in(1, 2), in(1, 2)}, in(3, 6), api.OK},
		{[]api.Interval{in(MaxNumber, MaxNumber), in(MaxNumber, MaxNumber), in(-MaxNumber, -MaxNumber)}, in(MaxNumber, MaxNumber), api.OK},
		{[]api.Interval{in(-MaxNumber, -MaxNumber), in(-1, 0), in(1, 1)}, in(-MaxNumber, 1-MaxNumber), api.OK},
		{[]api.Interval{in(MaxNumber, MaxNumber), in(0, 1)}, api.Interval{}, api.ErrRange},
		{[]api.Interval{in(-MaxNumber, -MaxNumber), in(-1, 0)}, api.Interval{}, api.ErrRange},
		{many, api.Interval{}, api.ErrRange},
		{many[:2], in(0, MaxNumber+MaxNumber/MaxList), api.ErrRange},
	} {
		if c.e != api.OK {
			c.want = api.Interval{}
		}
		sum, e := Sum(c.list)
		wantInterval(t, "Sum", sum, e, c.want, c.e)
	}
}

// Partial sums may leave the range even of many intervals.
func TestSumOfManyIntervals(t *testing.T) {
	many := make([]api.Interval, MaxList)
	for i := range many {
		many[i] = in(MaxNumber-1, MaxNumber)
		if i >= MaxList/2 {
			many[i] = in(-MaxNumber, -MaxNumber+1)
		}
	}
	sum, e := Sum(many)
	wantInterval(t, "Sum", sum, e, in(-MaxList/2, MaxList/2), api.OK)
}

// P1.3

func TestIntersectAndHull(t *testing.T) {
	for _, c := range []struct {
		a, b, both, hull api.Interval
		e                api.Errno
	}{
		{in(1, 2), in(3, 4), api.Interval{}, in(1, 4), api.ErrNone},
		{in(3, 4), in(1, 2), api.Interval{}, in(1, 4), api.ErrNone},
		{in(1, 2), in(9, 9), api.Interval{}, in(1, 9), api.ErrNone},
		{in(1, 3), in(3, 4), in(3, 3), in(1, 4), api.OK},
		{in(3, 4), in(1, 3), in(3, 3), in(1, 4), api.OK},
		{in(1, 9), in(4, 5), in(4, 5), in(1, 9), api.OK},
		{in(4, 5), in(1, 9), in(4, 5), in(1, 9), api.OK},
		{in(-7, 2), in(-7, 2), in(-7, 2), in(-7, 2), api.OK},
		{in(0, 0), in(0, 0), in(0, 0), in(0, 0), api.OK},
		{in(-MaxNumber, 0), in(0, MaxNumber), in(0, 0), in(-MaxNumber, MaxNumber), api.OK},
	} {
		both, e := Intersect(c.a, c.b)
		wantInterval(t, "Intersect", both, e, c.both, c.e)
		hull, e := Hull(c.a, c.b)
		wantInterval(t, "Hull", hull, e, c.hull, api.OK)
	}
}

// P1.4

func TestNormalize(t *testing.T) {
	for _, c := range []struct {
		list, want []api.Interval
	}{
		{nil, nil},
		{[]api.Interval{}, nil},
		{[]api.Interval{in(5, 7), in(1, 2), in(3, 3)}, []api.Interval{in(1, 3), in(5, 7)}},
		{[]api.Interval{in(1, 1), in(3, 3)}, []api.Interval{in(1, 1), in(3, 3)}},
		{[]api.Interval{in(3, 3), in(2, 2), in(1, 1)}, []api.Interval{in(1, 3)}},
		{[]api.Interval{in(1, 9), in(2, 3), in(5, 5)}, []api.Interval{in(1, 9)}},
		{[]api.Interval{in(4, 4), in(4, 4), in(4, 4)}, []api.Interval{in(4, 4)}},
		{[]api.Interval{in(1, 4), in(1, 2)}, []api.Interval{in(1, 4)}},
		{[]api.Interval{in(0, MaxNumber), in(-MaxNumber, -1)}, []api.Interval{in(-MaxNumber, MaxNumber)}},
		{[]api.Interval{in(MaxNumber, MaxNumber), in(-MaxNumber, -MaxNumber)}, []api.Interval{in(-MaxNumber, -MaxNumber), in(MaxNumber, MaxNumber)}},
	} {
		got, e := Normalize(c.list)
		wantList(t, "Normalize", got, e, c.want...)
	}
}

func TestUnionMinusCommon(t *testing.T) {
	all := in(-MaxNumber, MaxNumber)
	for _, c := range []struct {
		a, b, union, minus, common []api.Interval
	}{
		{nil, nil, nil, nil, nil},
		{[]api.Interval{in(1, 2)}, nil, []api.Interval{in(1, 2)}, []api.Interval{in(1, 2)}, nil},
		{nil, []api.Interval{in(1, 2)}, []api.Interval{in(1, 2)}, nil, nil},
		{[]api.Interval{in(1, 9)}, []api.Interval{in(6, 7), in(3, 3)}, []api.Interval{in(1, 9)}, []api.Interval{in(1, 2), in(4, 5), in(8, 9)}, []api.Interval{in(3, 3), in(6, 7)}},
		{[]api.Interval{in(1, 4), in(6, 9)}, []api.Interval{in(3, 7)}, []api.Interval{in(1, 9)}, []api.Interval{in(1, 2), in(8, 9)}, []api.Interval{in(3, 4), in(6, 7)}},
		{[]api.Interval{in(1, 2)}, []api.Interval{in(3, 4)}, []api.Interval{in(1, 4)}, []api.Interval{in(1, 2)}, nil},
		{[]api.Interval{in(1, 2), in(2, 5)}, []api.Interval{in(5, 5), in(1, 1)}, []api.Interval{in(1, 5)}, []api.Interval{in(2, 4)}, []api.Interval{in(1, 1), in(5, 5)}},
		{[]api.Interval{all}, []api.Interval{all}, []api.Interval{all}, nil, []api.Interval{all}},
		{[]api.Interval{all}, []api.Interval{in(0, 0)}, []api.Interval{all}, []api.Interval{in(-MaxNumber, -1), in(1, MaxNumber)}, []api.Interval{in(0, 0)}},
		{[]api.Interval{all}, nil, []api.Interval{all}, []api.Interval{all}, nil},
		{[]api.Interval{all}, []api.Interval{in(-MaxNumber, 0)}, []api.Interval{all}, []api.Interval{in(1, MaxNumber)}, []api.Interval{in(-MaxNumber, 0)}},
		{[]api.Interval{all}, []api.Interval{in(0, MaxNumber)}, []api.Interval{all}, []api.Interval{in(-MaxNumber, -1)}, []api.Interval{in(0, MaxNumber)}},
	} {
		union, e := Union(c.a, c.b)
		wantList(t, "Union", union, e, c.union...)
		minus, e := Minus(c.a, c.b)
		wantList(t, "Minus", minus, e, c.minus...)
		common, e := Common(c.a, c.b)
		wantList(t, "Common", common, e, c.common...)
	}
}

func TestCount(t *testing.T) {
	for _, c := range []struct {
		list []api.Interval
		want int
	}{
		{nil, 0},
		{[]api.Interval{in(1, 5), in(4, 9)}, 9},
		{[]api.Interval{in(1, 5), in(6, 9)}, 9},
		{[]api.Interval{in(1, 5), in(1, 5)}, 5},
		{[]api.Interval{in(8, 8), in(-1, 1)}, 4},
		{[]api.Interval{in(-MaxNumber, MaxNumber), in(0, 0)}, 2*MaxNumber + 1},
	} {
		if n, e := Count(c.list); n != c.want || e != api.OK {
			t.Errorf("Count of %v: %d, %d; want %d", c.list, n, e, c.want)
		}
	}
}

// members tells of the numbers 0 to 15 which of them the intervals of a list have.
func members(list []api.Interval) (have [16]bool) {
	for n := range have {
		for _, a := range list {
			have[n] = have[n] || a.Lo <= n && n <= a.Hi
		}
	}
	return have
}

// normalForm builds the normal form of a set number by number.
func normalForm(have [16]bool) []api.Interval {
	var out []api.Interval
	for n, has := range have {
		switch {
		case has && n > 0 && have[n-1]:
			out[len(out)-1].Hi = n
		case has:
			out = append(out, in(n, n))
		}
	}
	return out
}

func randomList(r *rand.Rand) []api.Interval {
	var list []api.Interval
	for range r.Intn(6) {
		lo := r.Intn(16)
		list = append(list, in(lo, min(15, lo+r.Intn(5))))
	}
	return list
}

func TestListsAgainstSets(t *testing.T) {
	r := rand.New(rand.NewSource(1))
	for range 20000 {
		a, b := randomList(r), randomList(r)
		keptA, keptB := slices.Clone(a), slices.Clone(b)
		for _, f := range listsFunctions {
			var have [16]bool
			inA, inB := members(a), members(b)
			for n := range have {
				have[n] = f.has(inA[n], inB[n])
			}
			got, e := f.call(a, b)
			if want := normalForm(have); e != api.OK || !slices.Equal(got, want) {
				t.Fatalf("%s of %v and %v: %v, %d; want %v", f.name, a, b, got, e, want)
			}
			for i := range got {
				got[i] = in(-1, -1)
			}
			if !slices.Equal(a, keptA) || !slices.Equal(b, keptB) {
				t.Fatalf("%s shares its result with an argument or changes it", f.name)
			}
		}
	}
}

// P1.5

func TestSumsOfNumbersLieInSum(t *testing.T) {
	r := rand.New(rand.NewSource(2))
	for range 2000 {
		list := randomList(r)
		sum, e := Sum(list)
		if e != api.OK {
			t.Fatal(list, e)
		}
		least, greatest, some := 0, 0, 0
		for _, a := range list {
			least += a.Lo
			greatest += a.Hi
			some += a.Lo + r.Intn(a.Hi-a.Lo+1)
		}
		if !Contains(sum, some) || sum != in(least, greatest) {
			t.Fatalf("Sum of %v: %v", list, sum)
		}
	}
}

func TestConsequencesOfSets(t *testing.T) {
	r := rand.New(rand.NewSource(3))
	for range 5000 {
		a, b := randomList(r), randomList(r)
		formA, _ := Normalize(a)
		formB, _ := Normalize(b)
		if slices.Equal(formA, formB) != (members(a) == members(b)) {
			t.Fatalf("the normal forms of %v and %v", a, b)
		}
		minus, _ := Minus(a, b)
		common, _ := Common(a, b)
		whole, _ := Union(minus, common)
		if !slices.Equal(whole, formA) {
			t.Fatalf("Minus and Common of %v and %v do not make up the first one", a, b)
		}
		union, _ := Union(a, b)
		inUnion, _ := Count(union)
		inA, _ := Count(a)
		inB, _ := Count(b)
		inBoth, _ := Count(common)
		if inUnion != inA+inB-inBoth {
			t.Fatalf("Count of the union of %v and %v", a, b)
		}
		r.Shuffle(len(a), func(i, k int) { a[i], a[k] = a[k], a[i] })
		again, _ := Normalize(a)
		if !slices.Equal(again, formA) {
			t.Fatalf("the order of %v matters", a)
		}
	}
}

// The errors, in their order (P1).

func TestErrorsOfPairs(t *testing.T) {
	good, low, high, turned := in(1, 2), in(-MaxNumber-1, 0), in(0, MaxNumber+1), in(2, 1)
	for _, f := range pairFunctions {
		for _, c := range []struct {
			a, b api.Interval
			want api.Errno
		}{
			{low, good, api.ErrRange},
			{good, low, api.ErrRange},
			{high, good, api.ErrRange},
			{good, high, api.ErrRange},
			{turned, good, api.ErrInvalid},
			{good, turned, api.ErrInvalid},
			{turned, high, api.ErrRange},
			{low, turned, api.ErrRange},
			{in(MaxNumber+2, MaxNumber+1), good, api.ErrRange},
			{good, in(math.MaxInt, math.MinInt), api.ErrRange},
			{in(MaxNumber, MaxNumber-1), in(MaxNumber, MaxNumber), api.ErrInvalid},
		} {
			got, e := f.call(c.a, c.b)
			wantInterval(t, f.name, got, e, api.Interval{}, c.want)
		}
	}
}

func TestErrorsOfLists(t *testing.T) {
	good, far, turned := []api.Interval{in(1, 2)}, []api.Interval{in(1, 1), in(0, MaxNumber+1)}, []api.Interval{in(2, 1)}
	full := slices.Repeat(good, MaxList)
	over := slices.Repeat(turned, MaxList+1)
	for _, f := range listsFunctions {
		for _, c := range []struct {
			a, b []api.Interval
			want api.Errno
		}{
			{far, good, api.ErrRange},
			{good, far, api.ErrRange},
			{turned, good, api.ErrInvalid},
			{good, turned, api.ErrInvalid},
			{turned, far, api.ErrRange},
			{far, turned, api.ErrRange},
			{over, nil, api.ErrTooMany},
			{nil, over, api.ErrTooMany},
			{far, over, api.ErrTooMany},
			{over, far, api.ErrTooMany},
			{full, nil, api.OK},
			{nil, full, api.OK},
		} {
			got, e := f.call(c.a, c.b)
			if e != c.want || e != api.OK && got != nil {
				t.Errorf("%s: %v, %d; want %d", f.name, got, e, c.want)
			}
		}
	}
}

// Each of the two lists may be full.
func TestTwoFullLists(t *testing.T) {
	var a, b []api.Interval
	for i := range MaxList {
		a = append(a, in(4*i, 4*i))
		b = append(b, in(4*i+2, 4*i+2))
	}
	union, e := Union(a, b)
	if e != api.OK || len(union) != 2*MaxList {
		t.Error("Union", len(union), e)
	}
	minus, e := Minus(a, b)
	if e != api.OK || !slices.Equal(minus, a) {
		t.Error("Minus", len(minus), e)
	}
	common, e := Common(a, b)
	if e != api.OK || len(common) != 0 {
		t.Error("Common", len(common), e)
	}
}

func TestErrorsOfOneList(t *testing.T) {
	turned := []api.Interval{in(0, 0), in(2, 1)}
	for _, c := range []struct {
		list []api.Interval
		want api.Errno
	}{
		{[]api.Interval{in(2, 1), in(-MaxNumber-1, 0)}, api.ErrRange},
		{[]api.Interval{in(0, MaxNumber+1), in(2, 1)}, api.ErrRange},
		{turned, api.ErrInvalid},
		{slices.Repeat(turned, MaxList), api.ErrTooMany},
		{slices.Repeat([]api.Interval{in(0, MaxNumber+1)}, MaxList+1), api.ErrTooMany},
		{make([]api.Interval, MaxList+1), api.ErrTooMany},
		{make([]api.Interval, MaxList), api.OK},
	} {
		sum, e := Sum(c.list)
		wantInterval(t, "Sum", sum, e, api.Interval{}, c.want)
		form, e := Normalize(c.list)
		if e != c.want || e != api.OK && form != nil {
			t.Errorf("Normalize: %v, %d; want %d", form, e, c.want)
		}
		n, e := Count(c.list)
		if e != c.want || e != api.OK && n != 0 {
			t.Errorf("Count: %d, %d; want %d", n, e, c.want)
		}
	}
}

func TestArgumentsOfSumAndCountAreKept(t *testing.T) {
	list := []api.Interval{in(5, 7), in(1, 2), in(3, 3)}
	kept := slices.Clone(list)
	Sum(list)
	Count(list)
	if !slices.Equal(list, kept) {
		t.Error(list)
	}
}
