package boring

import (
	"math"
	"math/rand"
	"reflect"
	"strconv"
	"strings"
	"testing"

	"gangsaw/api"
	"gangsaw/parser"
	"gangsaw/printer"
)

// line returns the first line of a source that has no fault.
func line(t *testing.T, rows ...string) api.Line {
	t.Helper()
	out, fault := parser.Parse(strings.Join(rows, "\n"))
	if fault != (api.Fault{}) {
		t.Fatalf("Parse of %q: %+v", rows, fault)
	}
	return out[0]
}

func exampleRows() []string {
	return []string{"boring b1 at 5 5:", "  sound 0 10", "  sound 10 20", "  flawed 25 30"}
}

// P14.5

func wantLoad(t *testing.T, l api.Line, want api.Boring) {
	t.Helper()
	if got, fault := Load(l); !reflect.DeepEqual(got, want) || fault != (api.Fault{}) {
		t.Errorf("Load of %+v: %+v, %+v, not %+v", l, got, fault, want)
	}
}

func wantFault(t *testing.T, l api.Line, code api.Errno, row, col int) {
	t.Helper()
	want := api.Fault{Code: code, Line: row, Col: col}
	if got, fault := Load(l); !reflect.DeepEqual(got, api.Boring{}) || fault != want {
		t.Errorf("Load of %+v: %+v, %+v, not %+v", l, got, fault, want)
	}
}

func TestLoad(t *testing.T) {
	wantLoad(t, line(t, exampleRows()...), example())
	wantLoad(t, line(t, "boring a at -1000000 999999:"), at("a", -top, top-1))
	wantLoad(t, line(t, "boring a at 0 -7:", "  flawed -1000000 -9", "", "  # more", "  sound -9 1000000"), at("a", 0, -7, -top, -9, 2, -9, top, 1))
}

func TestFaults(t *testing.T) {
	const head = "boring a at 5 6:"
	for _, c := range []struct {
		rows     []string
		code     api.Errno
		row, col int
	}{
		{[]string{"borings a at 5 6:"}, api.ErrSyntax, 1, 1}, {[]string{"\"boring\" a at 5 6:"}, api.ErrSyntax, 1, 1}, {[]string{"boring:"}, api.ErrSyntax, 1, 1}, {[]string{"boring a:"}, api.ErrSyntax, 1, 8}, {[]string{"boring a at:"}, api.ErrSyntax, 1, 10}, {[]string{"boring a at 5:"}, api.ErrSyntax, 1, 13}, {[]string{"boring a at 5 6 7:"}, api.ErrSyntax, 1, 17}, {[]string{"boring 5 at 5 6:"}, api.ErrSyntax, 1, 8}, {[]string{"boring a in 5 6:"}, api.ErrSyntax, 1, 10}, {[]string{"boring a at b 6:"}, api.ErrSyntax, 1, 13}, {[]string{"boring a at 5 b:"}, api.ErrSyntax, 1, 15},
		{[]string{"boring A at 5 6:"}, api.ErrName, 1, 8}, {[]string{"boring A at 5:"}, api.ErrName, 1, 8}, {[]string{"boring A in 5 6"}, api.ErrName, 1, 8}, {[]string{"boring " + strings.Repeat("a", 25) + " at 5 6:"}, api.ErrName, 1, 8},
		{[]string{"boring a at 1000001 6:"}, api.ErrRange, 1, 13}, {[]string{"boring a at 5 -1000001:"}, api.ErrRange, 1, 15}, {[]string{"boring a at 1000001 -1000001"}, api.ErrRange, 1, 13}, {[]string{"boring a at 1000001 b:"}, api.ErrSyntax, 1, 21}, // behind the fault of Shape
		{[]string{"boring a at 5 6"}, api.ErrSyntax, 1, 1}, {[]string{"boring a at 5 1000001"}, api.ErrRange, 1, 15}, {[]string{"boring a at 5 1000000"}, api.ErrSyntax, 1, 1},
		{[]string{"boring a at 1000000 6:"}, api.ErrRange, 1, 1}, {[]string{"boring a at 5 1000000:", "  sound 0 10"}, api.ErrRange, 1, 1},
		{[]string{head, "  Sound 0 10"}, api.ErrSyntax, 2, 3}, {[]string{head, "  unseen 0 10"}, api.ErrSyntax, 2, 3}, {[]string{head, "  \"sound\" 0 10"}, api.ErrSyntax, 2, 3}, {[]string{head, "  5"}, api.ErrSyntax, 2, 3}, {[]string{head, "  = 0 10"}, api.ErrSyntax, 2, 3}, {[]string{head, "  boring a at 5 6:"}, api.ErrSyntax, 2, 3},
		{[]string{head, "  sound 0 10:"}, api.ErrSyntax, 2, 3}, {[]string{head, "  sound x:"}, api.ErrSyntax, 2, 3}, {[]string{head, "  sound 0 10:", "    sound"}, api.ErrSyntax, 2, 3},
		{[]string{head, "  sound"}, api.ErrSyntax, 2, 3}, {[]string{head, "  sound 0"}, api.ErrSyntax, 2, 9}, {[]string{head, "  flawed 0 10 20"}, api.ErrSyntax, 2, 15}, {[]string{head, "  flawed a 10"}, api.ErrSyntax, 2, 10}, {[]string{head, "  flawed 0 \"10\""}, api.ErrSyntax, 2, 12},
		{[]string{head, "  sound 0 1000001"}, api.ErrRange, 2, 11}, {[]string{head, "  sound -1000001 a"}, api.ErrSyntax, 2, 18}, {[]string{head, "  sound -1000001 1000001"}, api.ErrRange, 2, 9},
		{[]string{head, "  sound 5 10", "  sound 0", "  sound"}, api.ErrSyntax, 3, 9}, {[]string{head, "  sound 5 2000000", "  sounds"}, api.ErrRange, 2, 11}, {[]string{head, "  sound 5 4", "  sounds"}, api.ErrSyntax, 3, 3},
		{[]string{head, "  sound 5 5"}, api.ErrInvalid, 1, 1}, {[]string{head, "  sound 5 10", "  sound 9 11"}, api.ErrOverlap, 1, 1}, {[]string{head, "  sound 5 10", "  sound 0 5"}, api.ErrOverlap, 1, 1}, {[]string{head, "  sound 5 10", "  sound 5 4"}, api.ErrInvalid, 1, 1}, {[]string{"boring a at 1000000 0:", "  sound 5 10", "  sound 9 11"}, api.ErrRange, 1, 1},
	} {
		wantFault(t, line(t, c.rows...), c.code, c.row, c.col)
	}
}

func TestLoadOfManyLogs(t *testing.T) {
	rows := []string{"", "boring a at 5 6:"}
	for i := range api.MaxLogs {
		rows = append(rows, "  sound "+strconv.Itoa(i)+" "+strconv.Itoa(i+1))
	}
	if got, fault := Load(line(t, rows...)); len(got.Logs) != api.MaxLogs || fault != (api.Fault{}) {
		t.Errorf("%+v, %+v", got, fault)
	}
	wantFault(t, line(t, append(rows, "  sound 5 6")...), api.ErrTooMany, 2, 1)
}

// Trees that no source has.
func TestLoadOfOtherLines(t *testing.T) {
	wantFault(t, api.Line{}, api.ErrSyntax, 0, 1)
	wantFault(t, api.Line{At: -7, Heading: true}, api.ErrSyntax, -7, 1)
	change := func(apply func(l *api.Line)) api.Line {
		l := line(t, exampleRows()...)
		l.At, l.Tokens[0].At = 50, 51
		apply(&l)
		return l
	}
	wantLoad(t, change(func(l *api.Line) {}), example())
	wantLoad(t, change(func(l *api.Line) { l.Tokens[0].N, l.Kids[0].Kids = math.MaxInt64, []api.Line{} }), example())
	wantFault(t, change(func(l *api.Line) { l.Heading = false }), api.ErrSyntax, 50, 51)
	wantFault(t, change(func(l *api.Line) { l.Tokens[1].Text = "" }), api.ErrName, 50, 8)
	wantFault(t, change(func(l *api.Line) { l.Tokens[3].N = math.MaxInt64 }), api.ErrRange, 50, 14)
	wantFault(t, change(func(l *api.Line) { l.Tokens[4].N = math.MinInt64 }), api.ErrRange, 50, 16)
	wantFault(t, change(func(l *api.Line) { l.Tokens[3].N = top }), api.ErrRange, 50, 51)
	wantFault(t, change(func(l *api.Line) { l.Kids[1] = api.Line{At: 9} }), api.ErrSyntax, 9, 1)
	wantFault(t, change(func(l *api.Line) { l.Kids[1].Tokens[0].Text = "" }), api.ErrSyntax, 3, 3)
	wantFault(t, change(func(l *api.Line) { l.Kids[1].Tokens[0].Kind = api.TokSign }), api.ErrSyntax, 3, 3)
	wantFault(t, change(func(l *api.Line) { l.Kids[1].Kids = []api.Line{{}} }), api.ErrSyntax, 3, 3)
	wantFault(t, change(func(l *api.Line) { l.Kids[2].Tokens[1].At, l.Kids[2].Tokens[1].N = -3, top+1 }), api.ErrRange, 4, -3)
	wantFault(t, change(func(l *api.Line) { l.Kids = append(l.Kids, l.Kids[0]) }), api.ErrOverlap, 50, 51)
}

func TestLine(t *testing.T) {
	for _, c := range []struct {
		b    api.Boring
		want []string
	}{
		{example(), exampleRows()}, {at("a", -top, top-1), []string{"boring a at -1000000 999999:"}}, {at("a", 0, 0, -top, top, 2), []string{"boring a at 0 0:", "  flawed -1000000 1000000"}},
	} {
		l, e := Line(c.b)
		if !reflect.DeepEqual(l, withoutNumbers(line(t, c.want...))) || e != api.OK {
			t.Errorf("Line of %+v: %+v, %d", c.b, l, e)
		}
		if text, e := printer.Print([]api.Line{l}); text != strings.Join(c.want, "\n")+"\n" || e != api.OK {
			t.Errorf("Print of the line of %+v: %q, %d", c.b, text, e)
		}
	}
}

// withoutNumbers returns a line with all numbers of lines and columns 0.
func withoutNumbers(l api.Line) api.Line {
	l.At = 0
	for i := range l.Tokens {
		l.Tokens[i].At = 0
	}
	for i, kid := range l.Kids {
		l.Kids[i] = withoutNumbers(kid)
	}
	return l
}

// P14.6

func TestLoadOfCanonicalLines(t *testing.T) {
	r := rand.New(rand.NewSource(148))
	for range 2000 {
		b, _ := randomBoring(r, nil)
		l, e := Line(b)
		if e != api.OK {
			t.Fatalf("Line of %+v: %d", b, e)
		}
		wantLoad(t, l, b)
	}
}

// P1

func TestLoadAndLineShareNoMemory(t *testing.T) {
	l := line(t, exampleRows()...)
	b, _ := Load(l)
	again, _ := Load(l)
	out, _ := Line(b)
	b.Name, b.Logs[0].Lo = "x", 99
	if !reflect.DeepEqual(l, line(t, exampleRows()...)) || !reflect.DeepEqual(again, example()) || !parser.Same([]api.Line{l}, []api.Line{out}) {
		t.Errorf("a change of the boring reaches %+v, %+v, %+v", l, again, out)
	}
}
