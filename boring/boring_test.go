package boring

import (
	"math"
	"math/rand"
	"reflect"
	"slices"
	"strconv"
	"strings"
	"testing"

	"gangsaw/api"
	"gangsaw/box"
)

const top = api.MaxCoord

// bx returns the box from (n0, n1, n2) to (n3, n4, n5).
func bx(n ...int) api.Box {
	return api.Box{Min: api.Vec{X: n[0], Y: n[1], Z: n[2]}, Max: api.Vec{X: n[3], Y: n[4], Z: n[5]}}
}

// logs returns the logs from n0 to n1 with the state n2, and so on.
func logs(n ...int) []api.Log {
	var list []api.Log
	for i := 0; i+2 < len(n); i += 3 {
		list = append(list, api.Log{Lo: n[i], Hi: n[i+1], State: n[i+2]})
	}
	return list
}

func at(name string, x, y int, n ...int) api.Boring {
	return api.Boring{Name: name, At: api.Point{X: x, Y: y}, Logs: logs(n...)}
}

// example is the boring of the chapter's examples.
func example() api.Boring {
	return at("b1", 5, 5, 0, 10, api.Sound, 10, 20, api.Sound, 25, 30, api.Flawed)
}

// shifted returns the example in another place of the pit that is tested.
func shifted() api.Boring { return at("b1", -3, 40, -4, 6, 1, 6, 9, 2, 12, 30, 1) }

var pit = bx(-10, 0, -5, 30, 60, 31)

// many has so many logs, none of which can be joined.
func many(count int) api.Boring {
	b := api.Boring{Name: "many", At: api.Point{X: 1, Y: 1}}
	for i := range count {
		b.Logs = append(b.Logs, api.Log{Lo: i - 5, Hi: i - 4, State: 1 + i%2})
	}
	return b
}

// P14.1

func TestCheckOfValidBorings(t *testing.T) {
	for _, b := range []api.Boring{
		shifted(), {Name: "a", At: api.Point{X: 0, Y: 0}}, {Name: "a", Logs: []api.Log{}}, many(36),
		at("a", -10, 0, -5, 31, api.Flawed), at("a", 29, 59, -5, -4, api.Sound, 30, 31, api.Sound), at(strings.Repeat("a", api.MaxName), 0, 0),
	} {
		if e := Check(b, pit); e != api.OK {
			t.Errorf("Check of %+v: %d", b, e)
		}
	}
	if e := Check(many(api.MaxLogs), bx(0, 0, -5, 2, 2, 100)); e != api.OK {
		t.Errorf("Check of many logs: %d", e)
	}
	whole := bx(-top, -top, -top, top, top, top)
	for _, b := range []api.Boring{at("a", -top, -top, -top, top, 1), at("a", top-1, top-1, top-1, top, 2)} {
		if e := Check(b, whole); e != api.OK {
			t.Errorf("Check of %+v: %d", b, e)
		}
	}
}

// change makes a boring invalid; changes with a lower rank come first.
type change struct {
	rank  int
	want  api.Errno
	apply func(b *api.Boring)
}

// commonChanges are errors of all functions that check a boring: those of its place have the rank 3.
func commonChanges() []change {
	add := func(n ...int) func(b *api.Boring) {
		return func(b *api.Boring) { b.Logs = append(b.Logs, logs(n...)...) }
	}
	name := func(name string) func(b *api.Boring) { return func(b *api.Boring) { b.Name = name } }
	return []change{
		{0, api.ErrName, name("")}, {0, api.ErrName, name("B1")}, {0, api.ErrName, name(strings.Repeat("b", api.MaxName+1))}, {0, api.ErrName, name("b 1")},
		{1, api.ErrTooMany, func(b *api.Boring) { b.Logs = append(b.Logs, many(api.MaxLogs).Logs...) }},
		{2, api.ErrInvalid, add(31, 31, 1)}, {2, api.ErrInvalid, add(31, 30, 1)}, {2, api.ErrInvalid, add(math.MaxInt, math.MinInt, 1)},
		{2, api.ErrInvalid, add(30, 31, api.Unseen)}, {2, api.ErrInvalid, add(30, 31, api.Clash)}, {2, api.ErrInvalid, add(30, 31, -1)},
		{4, api.ErrOverlap, add(29, 30, 1)}, {4, api.ErrOverlap, add(-4, 6, 1)}, {4, api.ErrOverlap, add(-5, 31, 2)}, {4, api.ErrOverlap, add(0, 1, 2)},
	}
}

// place returns a change of a boring's place.
func place(want api.Errno, apply func(b *api.Boring)) change { return change{3, want, apply} }

// changesInPit are the errors of borings in the pit.
func changesInPit() []change {
	list := commonChanges()
	for _, p := range []api.Point{{X: -11, Y: 40}, {X: 30, Y: 40}, {X: -3, Y: -1}, {X: -3, Y: 60}, {X: math.MaxInt, Y: 40}, {X: math.MinInt, Y: 40}, {X: -3, Y: math.MaxInt}, {X: -3, Y: math.MinInt}} {
		list = append(list, place(api.ErrOutside, func(b *api.Boring) { b.At = p }))
	}
	for _, l := range []api.Log{{Lo: 30, Hi: 32, State: 1}, {Lo: 31, Hi: 32, State: 1}, {Lo: 30, Hi: math.MaxInt, State: 1}, {Lo: -6, Hi: -5, State: 1}, {Lo: math.MinInt, Hi: math.MaxInt, State: 1}} {
		list = append(list, place(api.ErrOutside, func(b *api.Boring) { b.Logs = append(b.Logs, l) }))
	}
	return list
}

// changesOfFormed are the errors of formed borings.
func changesOfFormed() []change {
	list := commonChanges()
	for _, p := range []api.Point{{X: top, Y: 0}, {X: 0, Y: top}, {X: -top - 1, Y: 0}, {X: 0, Y: -top - 1}, {X: math.MaxInt, Y: 0}, {X: 0, Y: math.MinInt}} {
		list = append(list, place(api.ErrRange, func(b *api.Boring) { b.At = p }))
	}
	for _, l := range []api.Log{{Lo: 30, Hi: top + 1, State: 1}, {Lo: -top - 1, Hi: -top, State: 1}, {Lo: 30, Hi: math.MaxInt, State: 1}, {Lo: math.MinInt, Hi: 0, State: 1}} {
		list = append(list, place(api.ErrRange, func(b *api.Boring) { b.Logs = append(b.Logs, l) }))
	}
	return list
}

// eachInvalid calls visit with the boring of each change, and of each two of them that have different ranks, and with its error.
func eachInvalid(list []change, visit func(b api.Boring, want api.Errno)) {
	for _, first := range list {
		b := shifted()
		first.apply(&b)
		visit(b, first.want)
		for _, second := range list {
			if second.rank > first.rank {
				b := shifted()
				second.apply(&b)
				first.apply(&b)
				visit(b, first.want)
			}
		}
	}
}

func TestCheckOfInvalidBorings(t *testing.T) {
	eachInvalid(changesInPit(), func(b api.Boring, want api.Errno) {
		if e := Check(b, pit); e != want {
			t.Errorf("Check of %+v: %d, not %d", b, e, want)
		}
		if e := CheckAll([]api.Boring{shifted(), b}, pit); e != want {
			t.Errorf("CheckAll with %+v: %d, not %d", b, e, want)
		}
	})
	bad := shifted()
	bad.Name = ""
	for _, c := range []struct {
		pit  api.Box
		want api.Errno
	}{
		{api.Box{}, api.ErrInvalid}, {bx(0, 0, 5, 9, 9, 5), api.ErrInvalid}, {bx(0, 0, 0, 9, 9, top+1), api.ErrRange}, {bx(math.MinInt, 9, 9, 0, 0, 0), api.ErrRange},
	} {
		for _, b := range []api.Boring{shifted(), bad} {
			if e := Check(b, c.pit); e != c.want {
				t.Errorf("Check in %v: %d, not %d", c.pit, e, c.want)
			}
			if e := CheckAll([]api.Boring{b, b}, c.pit); e != c.want {
				t.Errorf("CheckAll in %v: %d, not %d", c.pit, e, c.want)
			}
		}
		if e := CheckAll(nil, c.pit); e != c.want {
			t.Errorf("CheckAll of nothing in %v: %d, not %d", c.pit, e, c.want)
		}
	}
}

func named(count int) []api.Boring {
	var list []api.Boring
	for i := range count {
		b := shifted()
		b.Name = "n" + strconv.Itoa(i)
		list = append(list, b)
	}
	return list
}

func TestCheckAll(t *testing.T) {
	for _, list := range [][]api.Boring{nil, {}, {shifted()}, named(2), named(api.MaxBorings)} {
		if e := CheckAll(list, pit); e != api.OK {
			t.Errorf("CheckAll of %d borings: %d", len(list), e)
		}
	}
	over := append(named(api.MaxBorings), api.Boring{})
	for _, where := range []api.Box{pit, {}} {
		if e := CheckAll(over, where); e != api.ErrTooMany {
			t.Errorf("CheckAll of too many borings: %d", e)
		}
	}
	for _, list := range [][]api.Boring{{shifted(), shifted()}, append(named(9), named(1)...), {named(2)[1], named(1)[0], at("n1", 0, 0)}} {
		if e := CheckAll(list, pit); e != api.ErrDuplicate {
			t.Errorf("CheckAll of equal names: %d", e)
		}
	}
	// Each error for all borings before the next one.
	list := changesInPit()
	for _, first := range list {
		for _, second := range list {
			a, b := shifted(), shifted()
			first.apply(&a)
			second.apply(&b)
			want := first
			if second.rank < first.rank {
				want = second
			}
			if e := CheckAll([]api.Boring{a, shifted(), b}, pit); e != want.want {
				t.Errorf("CheckAll of %+v and %+v: %d, not %d", a, b, e, want.want)
			}
		}
	}
}

func TestState(t *testing.T) {
	for z, want := range map[int]int{-1: 0, 0: 1, 9: 1, 10: 1, 19: 1, 20: 0, 24: 0, 25: 2, 29: 2, 30: 0, math.MaxInt: 0, math.MinInt: 0} {
		if got := State(example(), z); got != want {
			t.Errorf("State at %d: %d", z, got)
		}
	}
	// The first log counts, whatever the logs are.
	any := at("", 0, 0, 5, 10, 7, 3, 6, api.Clash, 9, 9, 1, 20, 10, 1, 12, 15, 0, 13, 14, 1, math.MinInt, math.MaxInt, -4)
	for z, want := range map[int]int{5: 7, 9: 7, 4: 3, 3: 3, 2: -4, 10: -4, 13: 0, 12: 0, 15: -4, math.MinInt: -4, math.MaxInt - 1: -4, math.MaxInt: 0} {
		if got := State(any, z); got != want {
			t.Errorf("State at %d: %d, not %d", z, got, want)
		}
	}
	if got := State(api.Boring{}, 0); got != api.Unseen {
		t.Errorf("State of nothing: %d", got)
	}
}

func TestSeen(t *testing.T) {
	for _, c := range []struct {
		b                     api.Boring
		state, count, longest int
	}{
		{example(), api.Sound, 20, 20}, {example(), api.Flawed, 5, 5}, {example(), api.Unseen, 0, 0}, {example(), api.Clash, 0, 0}, {example(), -1, 0, 0},
		{shifted(), api.Sound, 28, 18}, {shifted(), api.Flawed, 3, 3}, {api.Boring{}, api.Sound, 0, 0},
		{at("", math.MaxInt, 0, 0, 4, 1, 4, 6, 1, 7, 12, 1, 12, 13, 2, 13, 14, 1), api.Sound, 12, 6}, // in any place
		{at("", 0, 0, 0, 4, 1, 4, 6, 5, 6, 7, 1, 7, 8, 2), api.Sound, 5, 4},                          // with other states
		{at("", 0, 0, 0, 4, api.Unseen, 4, 6, api.Unseen, 6, 7, api.Clash), api.Unseen, 0, 0}, {at("", 0, 0, 0, 4, api.Clash), api.Clash, 0, 0},
		{at("", 0, 0, -5*top, 5*top, 1), api.Sound, 10 * top, 10 * top},
		{many(1000), api.Sound, 500, 1},
		// Numbers that do not increase.
		{at("", 0, 0, 0, 4, 1, 3, 6, 1), api.Sound, 0, 0}, {at("", 0, 0, 5, 9, 1, 0, 4, 1), api.Sound, 0, 0}, {at("", 0, 0, 0, 4, 1, 0, 4, 1), api.Sound, 0, 0},
		{at("", 0, 0, 0, 4, 1, 4, 4, 1), api.Sound, 0, 0}, {at("", 0, 0, 4, 0, 1), api.Sound, 0, 0}, {at("", 0, 0, 0, 4, 1, 5, 4, 2), api.Sound, 0, 0}, {at("", 0, 0, 0, 4, 1, 3, 6, 7), api.Sound, 0, 0},
	} {
		if count, longest := Seen(c.b, c.state); count != c.count || longest != c.longest {
			t.Errorf("Seen of %+v, state %d: %d, %d, not %d, %d", c.b, c.state, count, longest, c.count, c.longest)
		}
	}
}

// P14.2

func TestNormal(t *testing.T) {
	for _, c := range []struct {
		b    api.Boring
		want []api.Log
	}{
		{example(), logs(0, 20, 1, 25, 30, 2)}, {shifted(), shifted().Logs}, {at("a", 0, 0), nil},
		{at("a", 0, 0, 0, 1, 1, 1, 2, 1, 2, 3, 1, 3, 4, 2, 4, 5, 2, 5, 6, 1), logs(0, 3, 1, 3, 5, 2, 5, 6, 1)},
		{at("a", 0, 0, 0, 1, 1, 2, 3, 1, 3, 4, 1), logs(0, 1, 1, 2, 4, 1)},
		{at("a", -top, top-1, -top, 0, 2, 0, top, 2), logs(-top, top, 2)},
		{many(api.MaxLogs), many(api.MaxLogs).Logs},
	} {
		got, e := Normal(c.b)
		if got.Name != c.b.Name || got.At != c.b.At || !slices.Equal(got.Logs, c.want) || e != api.OK {
			t.Errorf("Normal of %+v: %+v, %d", c.b, got, e)
		}
	}
}

func TestEvidence(t *testing.T) {
	got, e := Evidence(example())
	want := []api.Evidence{{Source: "b1", Box: bx(5, 5, 0, 6, 6, 20), State: api.Sound}, {Source: "b1", Box: bx(5, 5, 25, 6, 6, 30), State: api.Flawed}}
	if !slices.Equal(got, want) || e != api.OK {
		t.Errorf("%+v, %d", got, e)
	}
	got, e = Evidence(at("x", top-1, -top, -top, top, api.Flawed))
	want = []api.Evidence{{Source: "x", Box: bx(top-1, -top, -top, top, 1-top, top), State: api.Flawed}}
	if !slices.Equal(got, want) || e != api.OK || box.Check(got[0].Box) != api.OK {
		t.Errorf("%+v, %d", got, e)
	}
	if got, e := Evidence(at("x", 0, 0)); len(got) > 0 || e != api.OK {
		t.Errorf("%+v, %d", got, e)
	}
}

func TestErrorsOfFormedBorings(t *testing.T) {
	none := api.Boring{}
	eachInvalid(changesOfFormed(), func(b api.Boring, want api.Errno) {
		if got, e := Normal(b); !reflect.DeepEqual(got, none) || e != want {
			t.Errorf("Normal of %+v: %+v, %d, not %d", b, got, e, want)
		}
		if got, e := Evidence(b); got != nil || e != want {
			t.Errorf("Evidence of %+v: %+v, %d, not %d", b, got, e, want)
		}
		if got, e := Line(b); !reflect.DeepEqual(got, api.Line{}) || e != want {
			t.Errorf("Line of %+v: %+v, %d, not %d", b, got, e, want)
		}
		if got, e := Merge(b, example()); !reflect.DeepEqual(got, none) || e != want {
			t.Errorf("Merge of %+v: %+v, %d, not %d", b, got, e, want)
		}
		if got, e := Merge(example(), b); !reflect.DeepEqual(got, none) || e != want {
			t.Errorf("Merge with %+v: %+v, %d, not %d", b, got, e, want)
		}
	})
	// All errors of the first boring come before those of the second one.
	list := changesOfFormed()
	for _, first := range list {
		for _, second := range list {
			a, b := shifted(), shifted()
			first.apply(&a)
			second.apply(&b)
			if got, e := Merge(a, b); !reflect.DeepEqual(got, none) || e != first.want {
				t.Errorf("Merge of %+v and %+v: %+v, %d, not %d", a, b, got, e, first.want)
			}
		}
	}
}

// P14.3

func TestMerge(t *testing.T) {
	for _, c := range []struct {
		a, b api.Boring
		want []api.Log
		e    api.Errno
	}{
		{example(), at("c", 5, 5, 18, 25, 1), logs(0, 25, 1, 25, 30, 2), api.OK}, {example(), at("c", 5, 5, 15, 16, 2), nil, api.ErrConflict},
		{example(), example(), logs(0, 20, 1, 25, 30, 2), api.OK}, {example(), at("c", 5, 5), logs(0, 20, 1, 25, 30, 2), api.OK}, {at("c", 5, 5), at("d", 5, 5), nil, api.OK},
		{example(), at("c", 5, 5, 20, 25, 2), logs(0, 20, 1, 20, 30, 2), api.OK}, {example(), at("c", 5, 5, -9, 0, 2, 30, 31, 1), logs(-9, 0, 2, 0, 20, 1, 25, 30, 2, 30, 31, 1), api.OK},
		{example(), at("c", 5, 5, 19, 20, 2), nil, api.ErrConflict}, {example(), at("c", 5, 5, -9, 1, 2), nil, api.ErrConflict}, {example(), at("c", 5, 5, 29, 35, 1), nil, api.ErrConflict}, {example(), at("c", 5, 5, -9, 40, 1), nil, api.ErrConflict},
		{example(), at("b1", 5, 6), nil, api.ErrConflict}, {example(), at("b1", 4, 5), nil, api.ErrConflict}, {at("a", -1, 0), at("a", 0, -1), nil, api.ErrConflict},
	} {
		got, e := Merge(c.a, c.b)
		want := api.Boring{Name: c.a.Name, At: c.a.At, Logs: c.want}
		if e != api.OK {
			want = api.Boring{}
		}
		if got.Name != want.Name || got.At != want.At || !slices.Equal(got.Logs, want.Logs) || e != c.e {
			t.Errorf("Merge of %+v and %+v: %+v, %d, not %+v, %d", c.a, c.b, got, e, want, c.e)
		}
	}
}

func TestMergeOfManyLogs(t *testing.T) {
	a, b := api.Boring{Name: "a"}, api.Boring{Name: "b"}
	var want []api.Log
	for i := range api.MaxLogs {
		even, odd := api.Log{Lo: 4 * i, Hi: 4*i + 1, State: 1}, api.Log{Lo: 4*i + 2, Hi: 4*i + 3, State: 1}
		a.Logs, b.Logs, want = append(a.Logs, even), append(b.Logs, odd), append(want, even, odd)
	}
	if got, e := Merge(a, b); !slices.Equal(got.Logs, want) || got.Name != "a" || e != api.OK {
		t.Errorf("Merge: %d logs, %d", len(got.Logs), e)
	}
}

func flaw(name string, lo, hi int, corners ...int) api.Flaw {
	f := api.Flaw{Name: name, Prism: api.Prism{Lo: lo, Hi: hi}}
	for i := 0; i+1 < len(corners); i += 2 {
		f.Prism.Base = append(f.Prism.Base, api.Point{X: corners[i], Y: corners[i+1]})
	}
	return f
}

func rectangle(name string, lo, hi, x, y, toX, toY int) api.Flaw {
	return flaw(name, lo, hi, x, y, toX, y, toX, toY, x, toY)
}

func TestAgainst(t *testing.T) {
	where := bx(0, 0, 0, 50, 50, 50)
	for _, c := range []struct {
		b     api.Boring
		flaws []api.Flaw
		want  []Conflict
	}{
		{example(), nil, nil}, {example(), []api.Flaw{rectangle("f", 15, 40, 0, 0, 10, 10)}, []Conflict{{"f", 15, 20}}},
		{example(), []api.Flaw{rectangle("f", 20, 50, 0, 0, 10, 10)}, nil}, {example(), []api.Flaw{rectangle("f", 19, 50, 0, 0, 10, 10)}, []Conflict{{"f", 19, 20}}}, {example(), []api.Flaw{rectangle("f", 0, 50, 0, 0, 10, 10)}, []Conflict{{"f", 0, 20}}}, {example(), []api.Flaw{rectangle("f", 3, 4, 0, 0, 10, 10)}, []Conflict{{"f", 3, 4}}},
		{example(), []api.Flaw{rectangle("f", 0, 50, 0, 0, 5, 50)}, nil}, {example(), []api.Flaw{rectangle("f", 0, 50, 6, 0, 50, 50)}, nil}, {example(), []api.Flaw{rectangle("f", 0, 50, 0, 0, 50, 5)}, nil}, {example(), []api.Flaw{rectangle("f", 0, 50, 0, 6, 50, 50)}, nil}, {example(), []api.Flaw{rectangle("f", 0, 50, 5, 5, 6, 6)}, []Conflict{{"f", 0, 20}}},
		{example(), []api.Flaw{flaw("f", 0, 50, 0, 0, 11, 0, 0, 11)}, []Conflict{{"f", 0, 20}}}, {example(), []api.Flaw{flaw("f", 0, 50, 0, 0, 10, 0, 0, 10)}, nil}, // The cell of the point counts, not its corner alone.
		{at("a", 1, 1, 0, 5, 1, 5, 6, 2, 6, 9, 1, 9, 12, 1, 20, 21, 1), []api.Flaw{rectangle("c", 8, 30, 0, 0, 9, 9), rectangle("d", 0, 7, 2, 2, 9, 9), rectangle("e", 2, 50, 0, 0, 2, 2)},
			[]Conflict{{"c", 8, 12}, {"c", 20, 21}, {"e", 2, 5}, {"e", 6, 12}, {"e", 20, 21}}},
		{at("a", 1, 1, 0, 50, 2), []api.Flaw{rectangle("c", 8, 30, 0, 0, 9, 9)}, nil},
		{at("a", 49, 0, 0, 50, 1), []api.Flaw{rectangle("c", 0, 50, 0, 0, 50, 50)}, []Conflict{{"c", 0, 50}}},
	} {
		got, e := Against(c.b, api.Survey{Pit: where, Flaws: c.flaws})
		if !slices.Equal(got, c.want) || e != api.OK {
			t.Errorf("Against of %+v and %v: %v, %d, not %v", c.b, c.flaws, got, e, c.want)
		}
	}
}

func TestErrorsOfAgainst(t *testing.T) {
	good := api.Survey{Pit: pit, Flaws: []api.Flaw{rectangle("f", -5, 0, -10, 0, 30, 60), rectangle("g", 5, 31, -3, 40, 30, 60)}}
	want := []Conflict{{"f", -4, 0}, {"g", 5, 6}, {"g", 12, 30}}
	if got, e := Against(shifted(), good); !slices.Equal(got, want) || e != api.OK {
		t.Fatalf("Against of a boring that has no error: %v, %d", got, e)
	}
	eachInvalid(changesInPit(), func(b api.Boring, want api.Errno) {
		if got, e := Against(b, good); got != nil || e != want {
			t.Errorf("Against of %+v: %v, %d, not %d", b, got, e, want)
		}
		for _, c := range []struct {
			s    api.Survey
			want api.Errno
		}{
			{api.Survey{}, api.ErrInvalid}, {api.Survey{Pit: bx(0, 0, 0, top+1, 1, 1)}, api.ErrRange}, {api.Survey{Pit: pit, Beds: []api.Bed{{Name: "b", Z: 32}}}, api.ErrOutside}, {api.Survey{Pit: pit, Flaws: []api.Flaw{flaw("f", 0, 1, 0, 0, 0, 1, 1, 0)}}, api.ErrConflict},
		} {
			if got, e := Against(b, c.s); got != nil || e != c.want {
				t.Errorf("Against of %+v and %+v: %v, %d, not %d", b, c.s, got, e, c.want)
			}
		}
	})
}

// P14.4

func TestNearest(t *testing.T) {
	list := []api.Boring{at("", 5, 5), at("", -3, 0, 9, 0, 7), at("", 5, 5), at("", 0, -top), at("", 4, -3)}
	for _, c := range []struct {
		p    api.Point
		want int
	}{
		{api.Point{X: 5, Y: 5}, 0}, {api.Point{X: 0, Y: 0}, 1}, {api.Point{X: top, Y: top}, 0}, {api.Point{X: 0, Y: -top}, 3}, {api.Point{X: 4, Y: 1}, 4}, {api.Point{X: 4, Y: 2}, 0}, {api.Point{X: 1, Y: 2}, 1}, {api.Point{X: 1, Y: 3}, 0}, {api.Point{X: 4, Y: -top}, 3}, {api.Point{X: -top, Y: top}, 1},
	} {
		if got, e := Nearest(list, c.p); got != c.want || e != api.OK {
			t.Errorf("Nearest to %v: %d, %d, not %d", c.p, got, e, c.want)
		}
	}
	far := []api.Boring{at("", -top, -top), at("", -top, -top+1)}
	if got, e := Nearest(far, api.Point{X: top, Y: top}); got != 1 || e != api.OK {
		t.Errorf("Nearest of far borings: %d, %d", got, e)
	}
	if got, e := Nearest(slices.Repeat(far, 5000), api.Point{X: top, Y: top}); got != 1 || e != api.OK {
		t.Errorf("Nearest of many borings: %d, %d", got, e)
	}
	for _, p := range []api.Point{{}, {X: top + 1}} {
		for _, none := range [][]api.Boring{nil, {}} {
			if got, e := Nearest(none, p); got != 0 || e != api.ErrNone {
				t.Errorf("Nearest of nothing: %d, %d", got, e)
			}
		}
	}
	for _, p := range []api.Point{{X: top + 1}, {X: -top - 1}, {Y: top + 1}, {Y: -top - 1}, {X: math.MaxInt, Y: math.MinInt}} {
		if got, e := Nearest(list, p); got != 0 || e != api.ErrRange {
			t.Errorf("Nearest to %v: %d, %d", p, got, e)
		}
		if got, e := Nearest(append(list[:4:4], api.Boring{At: p}), api.Point{X: 5, Y: 5}); got != 0 || e != api.ErrRange {
			t.Errorf("Nearest with %v: %d, %d", p, got, e)
		}
	}
}

func TestNearestOfRandomBorings(t *testing.T) {
	r := rand.New(rand.NewSource(144))
	for range 3000 {
		var list []api.Boring
		for range 1 + r.Intn(8) {
			list = append(list, at("", r.Intn(9)-4, r.Intn(9)-4))
		}
		p := api.Point{X: r.Intn(9) - 4, Y: r.Intn(9) - 4}
		var distances []int
		for _, b := range list {
			x, y := b.At.X-p.X, b.At.Y-p.Y
			distances = append(distances, x*x+y*y)
		}
		want := slices.Index(distances, slices.Min(distances))
		if got, e := Nearest(list, p); got != want || e != api.OK {
			t.Fatalf("Nearest of %v to %v: %d, %d, not %d", list, p, got, e, want)
		}
	}
}

// P14.6

// depth is the number of z, from 0 on, at which random borings say something.
const depth = 16

// randomBoring returns a boring that says at random z what told says, or mostly so if that is given, and what it says at each z.
func randomBoring(r *rand.Rand, told []int) (api.Boring, []int) {
	b := at("r"+strconv.Itoa(r.Intn(9)), 3, 4)
	says := make([]int, depth)
	for z := 0; z < depth; {
		to := min(z+1+r.Intn(4), depth)
		state := r.Intn(3)
		for told != nil && r.Intn(30) > 0 && to > z && slices.ContainsFunc(told[z:to], func(s int) bool { return s != 0 && state != 0 && s != state }) {
			to--
		}
		to = max(to, z+1)
		if told != nil && told[z] != 0 && state != 0 && r.Intn(30) > 0 {
			state = told[z]
		}
		if state != 0 {
			b.Logs = append(b.Logs, api.Log{Lo: z, Hi: to, State: state})
		}
		for ; z < to; z++ {
			says[z] = state
		}
	}
	return b, says
}

// spoken returns what a boring says at each z.
func spoken(b api.Boring) []int {
	var says []int
	for z := range depth {
		says = append(says, State(b, z))
	}
	return says
}

// isNormal reports whether no log begins at the end of one with the same state.
func isNormal(b api.Boring) bool {
	for _, l := range b.Logs {
		for _, m := range b.Logs {
			if l.Hi == m.Lo && l.State == m.State {
				return false
			}
		}
	}
	return true
}

// runs returns at how many z there is a state, and the longest run.
func runs(says []int, state int) (count, longest int) {
	run := 0
	for _, s := range says {
		if s != state {
			run = 0
			continue
		}
		count++
		run++
		longest = max(longest, run)
	}
	return count, longest
}

func TestRandomBorings(t *testing.T) {
	r := rand.New(rand.NewSource(14))
	for range 5000 {
		b, says := randomBoring(r, nil)
		if !slices.Equal(spoken(b), says) {
			t.Fatalf("State of %+v: %v", b, spoken(b))
		}
		n, e := Normal(b)
		if !slices.Equal(spoken(n), says) || !isNormal(n) || Check(n, bx(0, 0, 0, 9, 9, depth)) != api.OK || e != api.OK {
			t.Fatalf("Normal of %+v: %+v, %d", b, n, e)
		}
		if again, e := Normal(n); !reflect.DeepEqual(again, n) || e != api.OK {
			t.Fatalf("Normal of %+v: %+v, %d", n, again, e)
		}
		for _, state := range []int{api.Sound, api.Flawed} {
			wantCount, wantLongest := runs(says, state)
			if count, longest := Seen(b, state); count != wantCount || longest != wantLongest || longest > count {
				t.Fatalf("Seen of %+v: %d, %d", b, count, longest)
			}
		}
		list, e := Evidence(b)
		for z, state := range says {
			var found []int
			for _, ev := range list {
				if box.Has(ev.Box, api.Vec{X: 3, Y: 4, Z: z}) {
					found = append(found, ev.State)
				}
			}
			if state == 0 && len(found) > 0 || state != 0 && !slices.Equal(found, []int{state}) {
				t.Fatalf("Evidence of %+v: %+v, %d", b, list, e)
			}
		}
		if len(list) != len(n.Logs) || e != api.OK {
			t.Fatalf("Evidence of %+v: %+v, %d", b, list, e)
		}
	}
}

func TestRandomPairs(t *testing.T) {
	r := rand.New(rand.NewSource(146))
	conflicts := 0
	for range 5000 {
		a, first := randomBoring(r, nil)
		b, second := randomBoring(r, first)
		want, code := make([]int, depth), api.OK
		for z := range want {
			want[z] = max(first[z], second[z])
			if first[z]*second[z] == api.Sound*api.Flawed {
				code = api.ErrConflict
			}
		}
		ab, e := Merge(a, b)
		ba, reversed := Merge(b, a)
		if e != code || reversed != code {
			t.Fatalf("Merge of %+v and %+v: %d and %d, not %d", a, b, e, reversed, code)
		}
		if code != api.OK {
			conflicts++
			continue
		}
		if !slices.Equal(spoken(ab), want) || !isNormal(ab) || ab.Name != a.Name || ab.At != a.At || !slices.Equal(ab.Logs, ba.Logs) || ba.Name != b.Name {
			t.Fatalf("Merge of %+v and %+v: %+v and %+v", a, b, ab, ba)
		}
	}
	if conflicts < 300 || conflicts > 4000 {
		t.Errorf("%d pairs contradict each other", conflicts)
	}
}

func TestRandomConflicts(t *testing.T) {
	r := rand.New(rand.NewSource(147))
	part := func(most int) (int, int) {
		lo := r.Intn(most)
		return lo, lo + 1 + r.Intn(most-lo)
	}
	for range 3000 {
		b, says := randomBoring(r, nil)
		s := api.Survey{Pit: bx(0, 0, 0, 9, 9, depth)}
		var want []Conflict
		for i := range r.Intn(5) {
			lo, hi := part(depth)
			x, toX := part(9)
			y, toY := part(9)
			f := rectangle("f"+strconv.Itoa(i), lo, hi, x, y, toX, toY)
			s.Flaws = append(s.Flaws, f)
			in := func(z int) bool {
				return x <= 3 && 3 < toX && y <= 4 && 4 < toY && lo <= z && z < hi && says[z] == api.Sound
			}
			for z := range depth {
				if in(z) && (z == 0 || !in(z-1)) {
					want = append(want, Conflict{Flaw: f.Name, Lo: z})
				}
				if in(z) {
					want[len(want)-1].Hi = z + 1
				}
			}
		}
		if got, e := Against(b, s); !slices.Equal(got, want) || e != api.OK {
			t.Fatalf("Against of %+v and %+v: %v, %d, not %v", b, s, got, e, want)
		}
	}
}

// P1

func TestArgumentsAreNotChanged(t *testing.T) {
	a, b := example(), at("c", 5, 5, 18, 25, 1)
	a.Logs = append(make([]api.Log, 0, 100), a.Logs...)
	s := api.Survey{Pit: bx(0, 0, 0, 50, 50, 50), Flaws: []api.Flaw{rectangle("f", 15, 40, 0, 0, 10, 10)}}
	Check(a, s.Pit)
	State(a, 0)
	Seen(a, 1)
	Normal(a)
	Evidence(a)
	Merge(a, b)
	Merge(b, a)
	Against(a, s)
	Nearest([]api.Boring{a, b}, api.Point{})
	Line(a)
	if !reflect.DeepEqual(a, example()) || !reflect.DeepEqual(b, at("c", 5, 5, 18, 25, 1)) {
		t.Errorf("%+v, %+v", a, b)
	}
}

func TestResultsShareNoMemory(t *testing.T) {
	a, b := shifted(), at("none", -3, 40)
	normal, _ := Normal(a)
	merged, _ := Merge(a, b)
	other, _ := Merge(b, a)
	for _, got := range []api.Boring{normal, merged, other} {
		got.Logs[0].Lo = 99
	}
	if !reflect.DeepEqual(a, shifted()) {
		t.Errorf("a change of the result reaches %+v", a)
	}
	again, _ := Normal(a)
	if !reflect.DeepEqual(again, shifted()) {
		t.Errorf("a change of a result reaches another one: %+v", again)
	}
}
