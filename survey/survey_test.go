package survey

import (
	"math"
	"math/rand"
	"reflect"
	"slices"
	"strconv"
	"strings"
	"testing"

	"gangsaw/api"
)

const top = api.MaxCoord

// bx returns the box from (n0, n1, n2) to (n3, n4, n5).
func bx(n ...int) api.Box {
	return api.Box{Min: api.Vec{X: n[0], Y: n[1], Z: n[2]}, Max: api.Vec{X: n[3], Y: n[4], Z: n[5]}}
}

// base returns the polygon with the corners (n0, n1), (n2, n3) and so on.
func base(n ...int) api.Polygon {
	var p api.Polygon
	for i := 0; i+1 < len(n); i += 2 {
		p = append(p, api.Point{X: n[i], Y: n[i+1]})
	}
	return p
}

func flaw(name string, lo, hi int, corners ...int) api.Flaw {
	return api.Flaw{Name: name, Prism: api.Prism{Base: base(corners...), Lo: lo, Hi: hi}}
}

// square returns the corners of the square from (lo, lo) to (hi, hi).
func square(lo, hi int) api.Polygon { return base(lo, lo, hi, lo, hi, hi, lo, hi) }

// example is the survey of the chapter's examples.
func example() api.Survey {
	return api.Survey{
		Pit:    bx(0, 0, 0, 100, 100, 100),
		Beds:   []api.Bed{{Name: "b", Z: 50}},
		Joints: []api.Joint{{Name: "j", Axis: api.AxisX, At: 30, Lo: 0, Hi: 60}},
	}
}

// full is a survey that has everything, in a pit with other lengths along each axis.
func full() api.Survey {
	return api.Survey{
		Pit:  bx(-10, 0, 5, 90, 200, 60),
		Open: [4]bool{true, false, false, true},
		Beds: []api.Bed{{Name: "top", Z: 10}, {Name: "base", Z: 40}},
		Joints: []api.Joint{
			{Name: "j1", Axis: api.AxisX, At: 30, Lo: 5, Hi: 30}, {Name: "j2", Axis: api.AxisY, At: 150, Lo: 20, Hi: 60}, {Name: "j3", Axis: api.AxisX, At: 30, Lo: 30, Hi: 35},
		},
		Flaws: []api.Flaw{flaw("f", 5, 20, 0, 0, 40, 0, 0, 40), flaw("g", 10, 60, 50, 100, 60, 100, 60, 110, 50, 110)},
	}
}

// manyNames returns names of a kind in their order.
func manyNames(kind string, count int) []string {
	var list []string
	for i := range count {
		list = append(list, kind+strconv.Itoa(1000+i))
	}
	return list
}

// crowded has as many beds, joints and flaws as told.
func crowded(beds, joints, flaws int) api.Survey {
	s := api.Survey{Pit: bx(0, 0, 0, 1000, 1000, 1000)}
	for i, name := range manyNames("b", beds) {
		s.Beds = append(s.Beds, api.Bed{Name: name, Z: i})
	}
	for i, name := range manyNames("j", joints) {
		s.Joints = append(s.Joints, api.Joint{Name: name, Axis: i % 2, At: i, Lo: i, Hi: i + 1})
	}
	for i, name := range manyNames("f", flaws) {
		s.Flaws = append(s.Flaws, api.Flaw{Name: name, Prism: api.Prism{Base: square(i, i+1), Lo: 0, Hi: 1}})
	}
	return s
}

// P13.1

func TestCheckOfValidSurveys(t *testing.T) {
	edges := example()
	edges.Beds = []api.Bed{{Name: "low", Z: 0}, {Name: "b", Z: 1}, {Name: "high", Z: 100}}
	edges.Joints = []api.Joint{
		{Name: "a", Axis: api.AxisX, At: 0, Lo: 0, Hi: 1}, {Name: "c", Axis: api.AxisX, At: 100, Lo: 0, Hi: 100}, {Name: "d", Axis: api.AxisY, At: 0, Lo: 99, Hi: 100}, {Name: "e", Axis: api.AxisY, At: 100, Lo: 5, Hi: 6},
	}
	edges.Flaws = []api.Flaw{flaw("f", 0, 100, 0, 0, 100, 0, 100, 100, 0, 100), flaw("g", 99, 100, 99, 100, 100, 99, 100, 100)}
	wide := api.Survey{Pit: bx(-top, -top, -top, top, top, top), Flaws: []api.Flaw{{Name: "f", Prism: api.Prism{Base: square(-top, top), Lo: -top, Hi: top}}}}
	long := example()
	long.Beds[0].Name = strings.Repeat("b", api.MaxName)
	for i, s := range []api.Survey{
		example(), full(), edges, wide, long, crowded(api.MaxBeds, api.MaxJoints, api.MaxFlaws),
		{Pit: bx(0, 0, 0, 1, 1, 1)}, {Pit: bx(0, 0, 0, 1, 1, 1), Beds: []api.Bed{}, Joints: []api.Joint{}, Flaws: []api.Flaw{}},
	} {
		if e := Check(s); e != api.OK {
			t.Errorf("Check of survey %d: %d", i, e)
		}
	}
}

// change makes a survey invalid; changes with a lower rank come first.
type change struct {
	rank  int
	want  api.Errno
	apply func(s *api.Survey)
}

func changes() []change {
	bed := func(name string, z int) func(s *api.Survey) {
		return func(s *api.Survey) { s.Beds = append(s.Beds, api.Bed{Name: name, Z: z}) }
	}
	joint := func(j api.Joint) func(s *api.Survey) {
		return func(s *api.Survey) { s.Joints = append(s.Joints, j) }
	}
	rock := func(f api.Flaw) func(s *api.Survey) {
		return func(s *api.Survey) { s.Flaws = append(s.Flaws, f) }
	}
	pit := func(change func(b *api.Box)) func(s *api.Survey) {
		return func(s *api.Survey) { change(&s.Pit) }
	}
	var round api.Polygon
	for i := range api.MaxCorners + 1 {
		round = append(round, api.Point{X: i, Y: i % 2})
	}
	return []change{
		{0, api.ErrTooMany, func(s *api.Survey) { s.Beds = append(s.Beds, crowded(api.MaxBeds, 0, 0).Beds...) }},
		{0, api.ErrTooMany, func(s *api.Survey) { s.Joints = append(s.Joints, crowded(0, api.MaxJoints, 0).Joints...) }},
		{0, api.ErrTooMany, func(s *api.Survey) { s.Flaws = append(s.Flaws, crowded(0, 0, api.MaxFlaws).Flaws...) }},
		{1, api.ErrRange, pit(func(b *api.Box) { b.Min.X = -top - 1 })},
		{1, api.ErrRange, pit(func(b *api.Box) { b.Max.Z = top + 1 })},
		{1, api.ErrRange, pit(func(b *api.Box) { b.Min.Y = math.MinInt })},
		{2, api.ErrInvalid, pit(func(b *api.Box) { b.Min.X = b.Max.X })},
		{2, api.ErrInvalid, pit(func(b *api.Box) { b.Min.Y = b.Max.Y + 1 })},
		{2, api.ErrInvalid, pit(func(b *api.Box) { b.Max.Z = b.Min.Z })},
		{3, api.ErrName, bed("", 55)}, {3, api.ErrName, bed("B", 55)}, {3, api.ErrName, bed(strings.Repeat("b", api.MaxName+1), 55)},
		{3, api.ErrName, joint(api.Joint{Name: "z j", Axis: api.AxisX, At: 30, Lo: 5, Hi: 6})}, {3, api.ErrName, rock(flaw("1", 5, 6, 0, 0, 1, 0, 0, 1))},
		{4, api.ErrInvalid, joint(api.Joint{Name: "z", Axis: api.AxisZ, At: 30, Lo: 5, Hi: 6})}, {4, api.ErrInvalid, joint(api.Joint{Name: "z", Axis: -1, At: 30, Lo: 5, Hi: 6})},
		{4, api.ErrInvalid, joint(api.Joint{Name: "z", Axis: api.AxisY, At: 30, Lo: 6, Hi: 6})}, {4, api.ErrInvalid, joint(api.Joint{Name: "z", Axis: api.AxisY, At: 30, Lo: 7, Hi: 6})},
		{4, api.ErrInvalid, rock(flaw("z", 6, 6, 0, 0, 1, 0, 0, 1))}, {4, api.ErrInvalid, rock(flaw("z", math.MaxInt, math.MinInt, 0, 0, 1, 0, 0, 1))},
		{5, api.ErrTooMany, rock(api.Flaw{Name: "z", Prism: api.Prism{Base: round, Lo: 5, Hi: 6}})},
		{6, api.ErrInvalid, rock(flaw("za", 5, 6))}, {6, api.ErrInvalid, rock(flaw("za", 5, 6, 0, 0, 1, 0))},
		{7, api.ErrRange, rock(flaw("zb", 5, 6, 0, 0, top+1, 0, 0, 1))},
		{8, api.ErrDuplicate, rock(flaw("zc", 5, 6, 0, 0, 1, 0, 1, 0, 0, 1))}, {8, api.ErrDuplicate, rock(flaw("zc", 5, 6, 0, 0, 1, 0, 0, 1, 0, 0))},
		{9, api.ErrConflict, rock(flaw("zd", 5, 6, 0, 0, 0, 1, 1, 0))},                   // clockwise
		{9, api.ErrConflict, rock(flaw("zd", 5, 6, 0, 0, 1, 0, 2, 0, 0, 1))},             // a corner on a side
		{9, api.ErrConflict, rock(flaw("zd", 5, 6, 0, 0, 4, 0, 1, 1, 0, 4))},             // a turn to the right
		{9, api.ErrConflict, rock(flaw("zd", 5, 6, 0, 0, 6, 5, 0, 5, 6, 0))},             // not simple
		{9, api.ErrConflict, rock(flaw("zd", 5, 6, 0, 2, 4, 0, 2, 4, 0, 0, 4, 2, 0, 4))}, // not simple
		{9, api.ErrConflict, rock(flaw("zd", 5, 6, 10, 0, 16, 19, 0, 7, 20, 7, 4, 19))},  // two turns to the left
		{10, api.ErrOutside, bed("z", 4)}, {10, api.ErrOutside, bed("z", 61)}, {10, api.ErrOutside, bed("z", math.MaxInt)},
		{10, api.ErrOutside, joint(api.Joint{Name: "z", Axis: api.AxisX, At: -11, Lo: 5, Hi: 6})}, {10, api.ErrOutside, joint(api.Joint{Name: "z", Axis: api.AxisX, At: 91, Lo: 5, Hi: 6})},
		{10, api.ErrOutside, joint(api.Joint{Name: "z", Axis: api.AxisY, At: -1, Lo: 5, Hi: 6})}, {10, api.ErrOutside, joint(api.Joint{Name: "z", Axis: api.AxisY, At: 201, Lo: 5, Hi: 6})},
		{10, api.ErrOutside, joint(api.Joint{Name: "z", Axis: api.AxisX, At: 30, Lo: 4, Hi: 6})}, {10, api.ErrOutside, joint(api.Joint{Name: "z", Axis: api.AxisX, At: 30, Lo: 5, Hi: 61})},
		{10, api.ErrOutside, joint(api.Joint{Name: "z", Axis: api.AxisX, At: 30, Lo: math.MinInt, Hi: math.MaxInt})},
		{10, api.ErrOutside, rock(flaw("z", 4, 6, 0, 0, 1, 0, 0, 1))}, {10, api.ErrOutside, rock(flaw("z", 5, 61, 0, 0, 1, 0, 0, 1))},
		{10, api.ErrOutside, rock(flaw("z", 5, 6, -11, 0, 1, 0, 0, 1))}, {10, api.ErrOutside, rock(flaw("z", 5, 6, 0, 0, 91, 0, 0, 1))}, {10, api.ErrOutside, rock(flaw("z", 5, 6, 0, -1, 1, 0, 0, 1))}, {10, api.ErrOutside, rock(flaw("z", 5, 6, 0, 0, 1, 0, 0, 201))},
		{11, api.ErrDuplicate, bed("z", 40)}, {11, api.ErrDuplicate, bed("z", 39)}, {11, api.ErrDuplicate, bed("top", 41)}, {11, api.ErrDuplicate, bed("j2", 41)}, {11, api.ErrDuplicate, bed("g", 41)},
		{11, api.ErrDuplicate, joint(api.Joint{Name: "j3", Axis: api.AxisX, At: 30, Lo: 5, Hi: 6})}, {11, api.ErrDuplicate, joint(api.Joint{Name: "j", Axis: api.AxisX, At: 30, Lo: 5, Hi: 6})}, {11, api.ErrDuplicate, joint(api.Joint{Name: "top", Axis: api.AxisX, At: 30, Lo: 5, Hi: 6})},
		{11, api.ErrDuplicate, rock(flaw("g", 5, 6, 0, 0, 1, 0, 0, 1))}, {11, api.ErrDuplicate, rock(flaw("fa", 5, 6, 0, 0, 1, 0, 0, 1))}, {11, api.ErrDuplicate, rock(flaw("j1", 5, 6, 0, 0, 1, 0, 0, 1))}, {11, api.ErrDuplicate, rock(flaw("top", 5, 6, 0, 0, 1, 0, 0, 1))},
	}
}

func TestCheckOfInvalidSurveys(t *testing.T) {
	list := changes()
	for i, first := range list {
		s := full()
		first.apply(&s)
		if e := Check(s); e != first.want {
			t.Errorf("change %d: %d, not %d", i, e, first.want)
		}
		for k, second := range list {
			// What polygon.Check says of bases counts flaw by flaw.
			flawByFlaw := 5 <= first.rank && second.rank <= 8
			if first.rank >= second.rank || flawByFlaw {
				continue
			}
			s := full()
			second.apply(&s)
			first.apply(&s)
			if e := Check(s); e != first.want {
				t.Errorf("changes %d and %d: %d, not %d", i, k, e, first.want)
			}
		}
	}
}

func TestCheckOfBasesInOrder(t *testing.T) {
	few, far, twice := flaw("x", 5, 6, 0, 0), flaw("y", 5, 6, 0, 0, top+1, 0, 0, 1), flaw("z", 5, 6, 0, 0, 0, 0, 0, 1)
	for _, c := range []struct {
		flaws []api.Flaw
		want  api.Errno
	}{
		{[]api.Flaw{few, far, twice}, api.ErrInvalid}, {[]api.Flaw{far, few, twice}, api.ErrRange}, {[]api.Flaw{twice, far, few}, api.ErrDuplicate},
		{[]api.Flaw{flaw("a", 5, 6, 0, 0, 0, 1, 1, 0), few}, api.ErrInvalid}, // what is not convex comes later
	} {
		s := full()
		s.Flaws = c.flaws
		if e := Check(s); e != c.want {
			t.Errorf("Check with %v: %d, not %d", c.flaws, e, c.want)
		}
	}
}

func TestErrorsOfTheSurvey(t *testing.T) {
	for i, c := range changes() {
		s := full()
		c.apply(&s)
		good, bad := bx(0, 0, 5, 1, 1, 6), api.Box{}
		for _, b := range []api.Box{good, bad} {
			if names, e := Through(s, b); names != nil || e != c.want {
				t.Errorf("Through, change %d: %v, %d", i, names, e)
			}
			if names, e := Flaws(s, b); names != nil || e != c.want {
				t.Errorf("Flaws, change %d: %v, %d", i, names, e)
			}
			for _, side := range []int{0, -1} {
				if open, e := Open(s, b, side); open || e != c.want {
					t.Errorf("Open, change %d: %v, %d", i, open, e)
				}
				if list, e := Jointed(s, b, side); list != nil || e != c.want {
					t.Errorf("Jointed, change %d: %v, %d", i, list, e)
				}
			}
		}
		if l, e := Line(s); !reflect.DeepEqual(l, api.Line{}) || e != c.want {
			t.Errorf("Line, change %d: %+v, %d", i, l, e)
		}
	}
}

func TestErrorsOfTheBox(t *testing.T) {
	for _, c := range []struct {
		b    api.Box
		want api.Errno
	}{
		{bx(0, 0, 5, 0, 1, 6), api.ErrInvalid}, {bx(0, 1, 5, 1, 1, 6), api.ErrInvalid}, {bx(0, 0, 6, 1, 1, 6), api.ErrInvalid}, {bx(2, 0, 5, 1, 1, 6), api.ErrInvalid}, {bx(0, 0, 5, 1, -1, 6), api.ErrInvalid}, {bx(0, 0, 7, 1, 1, 6), api.ErrInvalid},
		{bx(math.MaxInt, 0, 5, math.MinInt, 1, 6), api.ErrInvalid}, {bx(200, 0, 5, 199, 1, 6), api.ErrInvalid},
		{bx(-11, 0, 5, 1, 1, 6), api.ErrOutside}, {bx(0, -1, 5, 1, 1, 6), api.ErrOutside}, {bx(0, 0, 4, 1, 1, 6), api.ErrOutside}, {bx(0, 0, 5, 91, 1, 6), api.ErrOutside}, {bx(0, 0, 5, 1, 201, 6), api.ErrOutside}, {bx(0, 0, 5, 1, 1, 61), api.ErrOutside},
		{bx(math.MinInt, math.MinInt, math.MinInt, math.MaxInt, math.MaxInt, math.MaxInt), api.ErrOutside}, {bx(90, 200, 60, 91, 201, 61), api.ErrOutside},
	} {
		s := full()
		if names, e := Through(s, c.b); names != nil || e != c.want {
			t.Errorf("Through %v: %v, %d", c.b, names, e)
		}
		if names, e := Flaws(s, c.b); names != nil || e != c.want {
			t.Errorf("Flaws %v: %v, %d", c.b, names, e)
		}
		for side := range 4 {
			if open, e := Open(s, c.b, side); open || e != c.want {
				t.Errorf("Open %v: %v, %d", c.b, open, e)
			}
			if list, e := Jointed(s, c.b, side); list != nil || e != c.want {
				t.Errorf("Jointed %v: %v, %d", c.b, list, e)
			}
		}
		for _, side := range []int{-1, 4, 5, math.MinInt, math.MaxInt} {
			if open, e := Open(s, c.b, side); open || e != api.ErrRange {
				t.Errorf("Open %v of the side %d: %v, %d", c.b, side, open, e)
			}
			if list, e := Jointed(s, c.b, side); list != nil || e != api.ErrRange {
				t.Errorf("Jointed %v of the side %d: %v, %d", c.b, side, list, e)
			}
		}
	}
}

func TestEqual(t *testing.T) {
	list := []api.Survey{{}, example(), full()}
	for _, change := range []func(s *api.Survey){
		func(s *api.Survey) { s.Pit.Max.Z++ }, func(s *api.Survey) { s.Open[1] = true },
		func(s *api.Survey) { s.Beds = s.Beds[:1] }, func(s *api.Survey) { s.Beds[1].Z++ }, func(s *api.Survey) { s.Beds[1].Name = "x" }, func(s *api.Survey) { slices.Reverse(s.Beds) },
		func(s *api.Survey) { s.Joints = s.Joints[1:] }, func(s *api.Survey) { s.Joints[0].Axis++ }, func(s *api.Survey) { s.Joints[0].At++ }, func(s *api.Survey) { s.Joints[2].Lo++ }, func(s *api.Survey) { s.Joints[2].Hi++ }, func(s *api.Survey) { s.Joints[2].Name = "x" },
		func(s *api.Survey) { s.Flaws = s.Flaws[:1] }, func(s *api.Survey) { s.Flaws[0].Name = "x" }, func(s *api.Survey) { s.Flaws[0].Prism.Lo++ }, func(s *api.Survey) { s.Flaws[1].Prism.Hi++ }, func(s *api.Survey) { s.Flaws[1].Prism.Base[3].Y++ },
		func(s *api.Survey) { s.Flaws[1].Prism.Base = s.Flaws[1].Prism.Base[:3] }, func(s *api.Survey) { slices.Reverse(s.Flaws) },
		func(s *api.Survey) { s.Flaws[0].Prism.Base = base(40, 0, 0, 40, 0, 0) }, // the same base from another corner on
	} {
		s := full()
		change(&s)
		list = append(list, s)
	}
	for i, a := range list {
		for k, b := range list {
			if Equal(a, b) != (i == k) {
				t.Errorf("Equal of %d and %d: %v", i, k, i != k)
			}
		}
	}
	if !Equal(full(), full()) {
		t.Errorf("Equal of surveys that share no memory")
	}
	empty := api.Survey{Beds: []api.Bed{}, Joints: []api.Joint{}, Flaws: []api.Flaw{}}
	if !Equal(api.Survey{}, empty) || !Equal(empty, api.Survey{}) {
		t.Errorf("Equal: nil and empty lists are not the same")
	}
	a, b := api.Survey{Flaws: []api.Flaw{{}}}, api.Survey{Flaws: []api.Flaw{{Prism: api.Prism{Base: api.Polygon{}}}}}
	if !Equal(a, b) || !Equal(b, a) {
		t.Errorf("Equal: nil and empty bases are not the same")
	}
}

// P13.2

func wantNames(t *testing.T, what string, b api.Box, got []string, e api.Errno, want ...string) {
	t.Helper()
	if !slices.Equal(got, want) || e != api.OK {
		t.Errorf("%s %v: %q, %d, not %q", what, b, got, e, want)
	}
}

func TestThrough(t *testing.T) {
	for _, c := range []struct {
		b    api.Box
		want []string
	}{
		{bx(0, 0, 40, 50, 50, 60), []string{"b", "j"}}, {bx(30, 0, 50, 50, 50, 60), nil},
		{bx(0, 0, 49, 30, 50, 51), []string{"b"}}, {bx(0, 0, 50, 30, 50, 51), nil}, {bx(0, 0, 49, 30, 50, 50), nil},
		{bx(29, 0, 0, 31, 50, 50), []string{"j"}}, {bx(29, 0, 0, 30, 50, 50), nil}, {bx(30, 0, 0, 31, 50, 50), nil},
		{bx(29, 0, 59, 31, 50, 60), []string{"j"}}, {bx(29, 0, 60, 31, 50, 61), nil}, {bx(29, 0, 50, 31, 50, 100), []string{"j"}},
		{bx(0, 0, 0, 100, 100, 100), []string{"b", "j"}},
	} {
		names, e := Through(example(), c.b)
		wantNames(t, "Through", c.b, names, e, c.want...)
	}
	sorted := api.Survey{
		Pit:    bx(0, 0, 0, 9, 9, 9),
		Beds:   []api.Bed{{Name: "z", Z: 1}, {Name: "c", Z: 2}, {Name: "m", Z: 9}},
		Joints: []api.Joint{{Name: "a", Axis: api.AxisY, At: 4, Lo: 0, Hi: 9}, {Name: "d", Axis: api.AxisX, At: 9, Lo: 0, Hi: 9}, {Name: "x_1", Axis: api.AxisX, At: 4, Lo: 8, Hi: 9}},
	}
	names, e := Through(sorted, sorted.Pit)
	wantNames(t, "Through", sorted.Pit, names, e, "a", "c", "x_1", "z")
}

func TestFlaws(t *testing.T) {
	for _, c := range []struct {
		b    api.Box
		want []string
	}{
		{bx(-10, 0, 5, 90, 200, 60), []string{"f", "g"}}, {bx(-10, 0, 5, 90, 200, 10), []string{"f"}}, {bx(-10, 0, 20, 90, 200, 60), []string{"g"}}, {bx(-10, 0, 19, 90, 200, 20), []string{"f", "g"}},
		{bx(20, 20, 5, 30, 30, 6), nil}, {bx(19, 20, 5, 30, 30, 6), []string{"f"}}, {bx(-10, 0, 5, 0, 40, 6), nil}, {bx(-10, 0, 5, 1, 1, 6), []string{"f"}},
		{bx(60, 100, 5, 70, 110, 60), nil}, {bx(59, 109, 59, 90, 200, 60), []string{"g"}}, {bx(59, 110, 59, 90, 200, 60), nil},
	} {
		names, e := Flaws(full(), c.b)
		wantNames(t, "Flaws", c.b, names, e, c.want...)
	}
}

func TestBedded(t *testing.T) {
	for z, want := range map[int]bool{10: true, 40: true, 9: false, 11: false, 0: false, -10: false, math.MaxInt: false} {
		if Bedded(full(), z) != want {
			t.Errorf("Bedded at %d: %v", z, !want)
		}
	}
	anything := api.Survey{Beds: []api.Bed{{Z: 7}, {Z: math.MinInt}, {Z: 7}, {Name: "!", Z: -3}}}
	if !Bedded(anything, 7) || !Bedded(anything, math.MinInt) || !Bedded(anything, -3) || Bedded(anything, 0) || Bedded(api.Survey{}, 0) {
		t.Errorf("Bedded of a survey that is not valid")
	}
}

// P13.3

func TestOpen(t *testing.T) {
	pit := full().Pit
	for _, c := range []struct {
		b    api.Box
		want [4]bool
	}{
		{pit, [4]bool{true, false, false, true}}, {bx(-9, 1, 5, 89, 199, 60), [4]bool{}},
		{bx(-10, 1, 6, 90, 200, 7), [4]bool{true, false, false, false}}, {bx(-10, 0, 6, 89, 200, 7), [4]bool{false, false, false, true}},
		{bx(89, 0, 6, 90, 1, 7), [4]bool{true, false, false, true}},
	} {
		for _, closed := range []bool{false, true} {
			for side := range 4 {
				s, want := full(), c.want[side]
				if closed {
					s.Open[side], want = false, false
				}
				if open, e := Open(s, c.b, side); open != want || e != api.OK {
					t.Errorf("Open %v of the side %d: %v, %d", c.b, side, open, e)
				}
			}
		}
	}
	for side := range 4 {
		s := full()
		s.Open = [4]bool{}
		s.Open[side] = true
		for other := range 4 {
			if open, e := Open(s, pit, other); open != (side == other) || e != api.OK {
				t.Errorf("Open of the side %d, if %d is open: %v, %d", other, side, open, e)
			}
		}
	}
}

func wantJointed(t *testing.T, s api.Survey, b api.Box, side int, want ...api.Interval) {
	t.Helper()
	if list, e := Jointed(s, b, side); !slices.Equal(list, want) || e != api.OK {
		t.Errorf("Jointed %v of the side %d: %v, %d, not %v", b, side, list, e, want)
	}
}

func TestJointed(t *testing.T) {
	wantJointed(t, example(), bx(30, 0, 40, 50, 50, 70), api.MinusX, api.Interval{Lo: 40, Hi: 59})
	wantJointed(t, example(), bx(0, 0, 40, 30, 50, 70), api.PlusX, api.Interval{Lo: 40, Hi: 59})
	wantJointed(t, example(), bx(30, 0, 40, 50, 50, 70), api.PlusX)
	wantJointed(t, example(), bx(0, 30, 40, 50, 50, 70), api.MinusY)
	wantJointed(t, example(), bx(30, 0, 60, 50, 50, 70), api.MinusX)
	wantJointed(t, example(), bx(30, 0, 59, 50, 50, 70), api.MinusX, api.Interval{Lo: 59, Hi: 59})
	wantJointed(t, example(), bx(30, 0, 10, 50, 50, 20), api.MinusX, api.Interval{Lo: 10, Hi: 19})
	// Neighbouring joints of one side are one interval, others are not.
	wantJointed(t, full(), bx(30, 0, 5, 50, 150, 60), api.MinusX, api.Interval{Lo: 5, Hi: 34})
	wantJointed(t, full(), bx(30, 0, 5, 50, 150, 60), api.PlusY, api.Interval{Lo: 20, Hi: 59})
	apart := full()
	apart.Joints = []api.Joint{{Name: "a", Axis: api.AxisX, At: 30, Lo: 40, Hi: 50}, {Name: "b", Axis: api.AxisX, At: 30, Lo: 5, Hi: 7}, {Name: "c", Axis: api.AxisX, At: 30, Lo: 41, Hi: 44}, {Name: "d", Axis: api.AxisX, At: 30, Lo: 8, Hi: 9}, {Name: "e", Axis: api.AxisX, At: 31, Lo: 5, Hi: 60}}
	wantJointed(t, apart, bx(30, 0, 5, 50, 150, 60), api.MinusX, api.Interval{Lo: 5, Hi: 6}, api.Interval{Lo: 8, Hi: 8}, api.Interval{Lo: 40, Hi: 49})
}

// randomSurvey returns a valid survey of a pit with coordinates up to 6, all of whose flaws are boxes.
func randomSurvey(r *rand.Rand) api.Survey {
	part := func() (int, int) {
		lo := r.Intn(6)
		return lo, lo + 1 + r.Intn(6-lo)
	}
	s := api.Survey{Pit: bx(0, 0, 0, 6, 6, 6)}
	for side := range s.Open {
		s.Open[side] = r.Intn(2) == 0
	}
	for z := range 7 {
		if r.Intn(3) == 0 {
			s.Beds = append(s.Beds, api.Bed{Name: "b" + strconv.Itoa(9-z), Z: z})
		}
	}
	for _, name := range manyNames("j", r.Intn(6)) {
		lo, hi := part()
		s.Joints = append(s.Joints, api.Joint{Name: name, Axis: r.Intn(2), At: r.Intn(7), Lo: lo, Hi: hi})
	}
	for _, name := range manyNames("a", r.Intn(4)) {
		x, toX := part()
		y, toY := part()
		lo, hi := part()
		s.Flaws = append(s.Flaws, flaw(name, lo, hi, x, y, toX, y, toX, toY, x, toY))
	}
	return s
}

// cells calls visit with the cells of a box.
func cells(b api.Box, visit func(x, y, z int)) {
	for x := b.Min.X; x < b.Max.X; x++ {
		for y := b.Min.Y; y < b.Max.Y; y++ {
			for z := b.Min.Z; z < b.Max.Z; z++ {
				visit(x, y, z)
			}
		}
	}
}

// expectedNames finds by cells what passes through a box, and which flaws overlap it: a plane passes through it if there are cells on both sides.
func expectedNames(s api.Survey, b api.Box) (through, flaws []string) {
	for _, bed := range s.Beds {
		below, above := false, false
		cells(b, func(x, y, z int) { below, above = below || z < bed.Z, above || z >= bed.Z })
		if below && above {
			through = append(through, bed.Name)
		}
	}
	for _, j := range s.Joints {
		before, behind := false, false
		cells(b, func(x, y, z int) {
			n := []int{x, y}[j.Axis]
			in := j.Lo <= z && z < j.Hi
			before, behind = before || in && n < j.At, behind || in && n >= j.At
		})
		if before && behind {
			through = append(through, j.Name)
		}
	}
	for _, f := range s.Flaws {
		hit := false
		from, to := f.Prism.Base[0], f.Prism.Base[2]
		cells(b, func(x, y, z int) {
			hit = hit || from.X <= x && x < to.X && from.Y <= y && y < to.Y && f.Prism.Lo <= z && z < f.Prism.Hi
		})
		if hit {
			flaws = append(flaws, f.Name)
		}
	}
	slices.Sort(through)
	return through, flaws
}

// expectedJointed returns the z in joints of a side one by one.
func expectedJointed(s api.Survey, b api.Box, side int) []int {
	var list []int
	for z := b.Min.Z; z < b.Max.Z; z++ {
		if slices.ContainsFunc(s.Joints, func(j api.Joint) bool {
			planes := []int{b.Max.X, b.Min.X, b.Max.Y, b.Min.Y}
			axes := []int{api.AxisX, api.AxisX, api.AxisY, api.AxisY}
			return j.Axis == axes[side] && j.At == planes[side] && j.Lo <= z && z < j.Hi
		}) {
			list = append(list, z)
		}
	}
	return list
}

func randomBox(r *rand.Rand, pit api.Box) api.Box {
	part := func(from, to int) (int, int) {
		lo := from + r.Intn(to-from)
		return lo, lo + 1 + r.Intn(to-lo)
	}
	var b api.Box
	b.Min.X, b.Max.X = part(pit.Min.X, pit.Max.X)
	b.Min.Y, b.Max.Y = part(pit.Min.Y, pit.Max.Y)
	b.Min.Z, b.Max.Z = part(pit.Min.Z, pit.Max.Z)
	return b
}

func TestBoxesOfRandomSurveys(t *testing.T) {
	r := rand.New(rand.NewSource(13))
	for range 3000 {
		s := randomSurvey(r)
		b := randomBox(r, s.Pit)
		wantThrough, wantFlaws := expectedNames(s, b)
		through, e := Through(s, b)
		wantNames(t, "Through", b, through, e, wantThrough...)
		flaws, e := Flaws(s, b)
		wantNames(t, "Flaws", b, flaws, e, wantFlaws...)
		for side := range 4 {
			list, e := Jointed(s, b, side)
			var each []int
			for i, in := range list {
				if in.Lo > in.Hi || i > 0 && in.Lo < list[i-1].Hi+2 {
					t.Fatalf("Jointed %v of %+v: %v is no normal form", b, s, list)
				}
				for z := in.Lo; z <= in.Hi; z++ {
					each = append(each, z)
				}
			}
			if !slices.Equal(each, expectedJointed(s, b, side)) || e != api.OK {
				t.Fatalf("Jointed %v of %+v at %d: %v, %d", b, s, side, list, e)
			}
			outer := []bool{b.Max.X == 6, b.Min.X == 0, b.Max.Y == 6, b.Min.Y == 0}
			if open, e := Open(s, b, side); open != (s.Open[side] && outer[side]) || e != api.OK {
				t.Fatalf("Open %v of %+v at %d: %v, %d", b, s, side, open, e)
			}
		}
	}
}

// P13.5

func subset(a, b []string) bool {
	return !slices.ContainsFunc(a, func(name string) bool { return !slices.Contains(b, name) })
}

func TestPartsOfBoxes(t *testing.T) {
	r := rand.New(rand.NewSource(135))
	for range 3000 {
		s := randomSurvey(r)
		b := randomBox(r, s.Pit)
		part := randomBox(r, b)
		through, _ := Through(s, b)
		flaws, _ := Flaws(s, b)
		if inner, e := Through(s, part); !subset(inner, through) || e != api.OK {
			t.Fatalf("through %v: %q, but through its part %v: %q, %d", b, through, part, inner, e)
		}
		if inner, e := Flaws(s, part); !subset(inner, flaws) || e != api.OK {
			t.Fatalf("flaws of %v: %q, but of its part %v: %q, %d", b, flaws, part, inner, e)
		}
		for _, name := range through {
			for _, half := range divided(s, b, name) {
				if names, e := Through(s, half); slices.Contains(names, name) || e != api.OK {
					t.Fatalf("%q passes through %v, a part of %v: %q, %d", name, half, b, names, e)
				}
			}
		}
	}
}

// divided returns the parts of a box at the bed or joint with a name.
func divided(s api.Survey, b api.Box, name string) [2]api.Box {
	low, high := b, b
	for _, bed := range s.Beds {
		if bed.Name == name {
			low.Max.Z, high.Min.Z = bed.Z, bed.Z
		}
	}
	for _, j := range s.Joints {
		if j.Name == name && j.Axis == api.AxisX {
			low.Max.X, high.Min.X = j.At, j.At
		} else if j.Name == name {
			low.Max.Y, high.Min.Y = j.At, j.At
		}
	}
	return [2]api.Box{low, high}
}

// P1

func TestSurveysAreNotChanged(t *testing.T) {
	s := full()
	s.Joints = append(make([]api.Joint, 0, 100), s.Joints...)
	b := bx(-10, 0, 5, 30, 200, 60)
	Check(s)
	Through(s, b)
	Flaws(s, b)
	Bedded(s, 10)
	Open(s, b, 0)
	Jointed(s, b, 0)
	Line(s)
	Equal(s, s)
	if !reflect.DeepEqual(s, full()) {
		t.Errorf("%+v", s)
	}
}

func TestResultsShareNoMemory(t *testing.T) {
	s := full()
	lists := func() [][]string {
		through, _ := Through(s, s.Pit)
		flaws, _ := Flaws(s, s.Pit)
		return [][]string{through, flaws}
	}
	for i, list := range lists() {
		for k := range list {
			list[k] = "x"
		}
		if again := lists()[i]; slices.Contains(again, "x") || !reflect.DeepEqual(s, full()) {
			t.Errorf("a change of the result reaches %q, %+v", again, s)
		}
	}
}
