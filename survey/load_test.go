package survey

import (
	"math"
	"math/rand"
	"reflect"
	"slices"
	"strings"
	"testing"

	"gangsaw/api"
	"gangsaw/lexer"
	"gangsaw/parser"
	"gangsaw/printer"
)

// line returns the first line of a source that has no fault.
func line(t *testing.T, rows ...string) api.Line {
	t.Helper()
	out, fault := parser.Parse(strings.Join(rows, "\n"))
	if fault != (api.Fault{}) {
		t.Fatalf("Parse of %q: %+v", rows, fault)
	}
	return out[0]
}

// fullRows is the source of the canonical line of the full survey.
func fullRows() []string {
	return []string{
		"survey:", "  pit -10 0 5 90 200 60", "  open east south", "  bed top 10", "  bed base 40",
		"  joint j1 x 30 5 30", "  joint j2 y 150 20 60", "  joint j3 x 30 30 35",
		"  flaw f 5 20:", "    corner 0 0", "    corner 40 0", "    corner 0 40",
		"  flaw g 10 60:", "    corner 50 100", "    corner 60 100", "    corner 60 110", "    corner 50 110",
	}
}

// P13.4

func wantLoad(t *testing.T, l api.Line, want api.Survey) {
	t.Helper()
	if got, fault := Load(l); !reflect.DeepEqual(got, want) || fault != (api.Fault{}) {
		t.Errorf("Load of %+v: %+v, %+v, not %+v", l, got, fault, want)
	}
}

func wantFault(t *testing.T, l api.Line, code api.Errno, at, col int) {
	t.Helper()
	want := api.Fault{Code: code, Line: at, Col: col}
	if got, fault := Load(l); !reflect.DeepEqual(got, api.Survey{}) || fault != want {
		t.Errorf("Load of %+v: %+v, %+v, not %+v", l, got, fault, want)
	}
}

func TestLoad(t *testing.T) {
	wantLoad(t, line(t, fullRows()...), full())
	wantLoad(t, line(t, "survey:", "  pit 0 0 0 100 100 100", "  bed b 50", "  joint j x 30 0 60"), example())
	wantLoad(t, line(t, "survey:", "  pit -1000000 -1000000 -1000000 1000000 1000000 1000000"), api.Survey{Pit: bx(-top, -top, -top, top, top, top)})
	for i, word := range []string{"east", "west", "north", "south"} {
		s := example()
		s.Open[i] = true
		wantLoad(t, line(t, "survey:", "  joint j x 30 0 60", "  open "+word, "  bed b 50", "  pit 0 0 0 100 100 100"), s)
	}
	all := example()
	all.Open = [4]bool{true, true, true, true}
	wantLoad(t, line(t, "survey:", "  open south west north east", "  joint j x 30 0 60", "  bed b 50", "  pit 0 0 0 100 100 100"), all)
}

func TestLoadSorts(t *testing.T) {
	wantLoad(t, line(t, "survey:",
		"  flaw b 0 1:", "    corner 5 5", "    corner 6 5", "    corner 5 6", "  bed z 9", "  joint d y 5 0 9", "  bed a 10", "  joint c x 5 0 9", "  bed y 8",
		"  flaw a2 0 1:", "    corner 2 2", "    corner 1 2", "    corner 2 1", "  pit 0 0 0 10 10 10"),
		api.Survey{
			Pit:    bx(0, 0, 0, 10, 10, 10),
			Beds:   []api.Bed{{Name: "y", Z: 8}, {Name: "z", Z: 9}, {Name: "a", Z: 10}},
			Joints: []api.Joint{{Name: "c", Axis: api.AxisX, At: 5, Lo: 0, Hi: 9}, {Name: "d", Axis: api.AxisY, At: 5, Lo: 0, Hi: 9}},
			Flaws:  []api.Flaw{flaw("a2", 0, 1, 2, 2, 1, 2, 2, 1), flaw("b", 0, 1, 5, 5, 6, 5, 5, 6)},
		})
}

// faulty is rows of the survey's kids, and the first fault of the survey that has them behind its pit.
type faulty struct {
	rows    []string
	code    api.Errno
	at, col int
}

func TestFaultsOfKids(t *testing.T) {
	for _, c := range []faulty{
		{[]string{"joint j z 30 0 60"}, api.ErrSyntax, 3, 11}, {[]string{"joint j x 30 0 600"}, api.ErrOutside, 1, 1},
		// The first token.
		{[]string{"corner 0 0"}, api.ErrSyntax, 3, 3}, {[]string{"Bed b 5"}, api.ErrSyntax, 3, 3}, {[]string{"survey:"}, api.ErrSyntax, 3, 3}, {[]string{"\"bed\" b 5"}, api.ErrSyntax, 3, 3}, {[]string{"5 b 5"}, api.ErrSyntax, 3, 3}, {[]string{"= b 5"}, api.ErrSyntax, 3, 3}, {[]string{"bed b 5", "beds c 6"}, api.ErrSyntax, 4, 3},
		{[]string{"pit 0 0 0 1 1 1"}, api.ErrDuplicate, 3, 3}, {[]string{"pit x"}, api.ErrDuplicate, 3, 3}, {[]string{"pit:"}, api.ErrDuplicate, 3, 3}, {[]string{"open east", "bed b 5", "open west"}, api.ErrDuplicate, 5, 3}, {[]string{"open east", "open"}, api.ErrDuplicate, 4, 3},
		// Tokens from left to right.
		{[]string{"bed"}, api.ErrSyntax, 3, 3}, {[]string{"bed b"}, api.ErrSyntax, 3, 7}, {[]string{"bed b 5 6"}, api.ErrSyntax, 3, 11}, {[]string{"bed 5 b"}, api.ErrSyntax, 3, 7}, {[]string{"bed b c"}, api.ErrSyntax, 3, 9}, {[]string{"bed \"b\" 5"}, api.ErrSyntax, 3, 7}, {[]string{"bed b \"5\""}, api.ErrSyntax, 3, 9}, {[]string{"bed b = 5"}, api.ErrSyntax, 3, 9},
		{[]string{"bed B 5"}, api.ErrName, 3, 7}, {[]string{"bed B"}, api.ErrName, 3, 7}, {[]string{"bed B c"}, api.ErrName, 3, 7}, {[]string{"bed " + strings.Repeat("b", 25) + " 5"}, api.ErrName, 3, 7},
		{[]string{"bed b 1000001"}, api.ErrRange, 3, 9}, {[]string{"bed b -1000001"}, api.ErrRange, 3, 9}, {[]string{"bed b 1000000000000000 6"}, api.ErrRange, 3, 9}, {[]string{"bed b 1000000"}, api.ErrOutside, 1, 1}, {[]string{"bed b -1000000"}, api.ErrOutside, 1, 1},
		{[]string{"open"}, api.ErrSyntax, 3, 3}, {[]string{"open up"}, api.ErrSyntax, 3, 8}, {[]string{"open east x"}, api.ErrSyntax, 3, 13}, {[]string{"open east 5"}, api.ErrSyntax, 3, 13}, {[]string{"open \"east\""}, api.ErrSyntax, 3, 8}, {[]string{"open East"}, api.ErrSyntax, 3, 8},
		{[]string{"open east east"}, api.ErrDuplicate, 3, 13}, {[]string{"open south west south north up"}, api.ErrDuplicate, 3, 19}, {[]string{"open south up south"}, api.ErrSyntax, 3, 14}, {[]string{"open south west north east east"}, api.ErrDuplicate, 3, 30},
		{[]string{"joint j"}, api.ErrSyntax, 3, 9}, {[]string{"joint j y"}, api.ErrSyntax, 3, 11}, {[]string{"joint j y 30"}, api.ErrSyntax, 3, 13}, {[]string{"joint j y 30 0"}, api.ErrSyntax, 3, 16}, {[]string{"joint j y 30 0 60 70"}, api.ErrSyntax, 3, 21}, {[]string{"joint j X 30 0 60"}, api.ErrSyntax, 3, 11}, {[]string{"joint j \"x\" 30 0 60"}, api.ErrSyntax, 3, 11}, {[]string{"joint j 30 x 0 60"}, api.ErrSyntax, 3, 11},
		{[]string{"joint J z 30 0 60"}, api.ErrName, 3, 9}, {[]string{"joint j x 2000000 a 60"}, api.ErrRange, 3, 13}, {[]string{"joint j x a 2000000 60"}, api.ErrSyntax, 3, 13}, {[]string{"joint j x 1 2 2000000 4"}, api.ErrRange, 3, 17},
		// Headings and kids.
		{[]string{"bed b 5:"}, api.ErrSyntax, 3, 3}, {[]string{"bed b 5:", "  corner 0 0"}, api.ErrSyntax, 3, 3}, {[]string{"open east:"}, api.ErrSyntax, 3, 3}, {[]string{"joint j x 30 0 60:"}, api.ErrSyntax, 3, 3}, {[]string{"bed b c:"}, api.ErrSyntax, 3, 9}, {[]string{"bed b 5000000:"}, api.ErrRange, 3, 9},
		{[]string{"flaw f 0 5"}, api.ErrSyntax, 3, 3}, {[]string{"flaw f 0 5 6"}, api.ErrSyntax, 3, 14}, {[]string{"flaw f 0:"}, api.ErrSyntax, 3, 10}, {[]string{"flaw:"}, api.ErrSyntax, 3, 3}, {[]string{"flaw F 0 5000000"}, api.ErrName, 3, 8}, {[]string{"flaw f 0 5000000"}, api.ErrRange, 3, 12},
		{[]string{"flaw f 0 5:", "  bed b 5"}, api.ErrSyntax, 4, 5}, {[]string{"flaw f 0 5:", "  \"corner\" 0 0"}, api.ErrSyntax, 4, 5}, {[]string{"flaw f 0 5:", "  corner"}, api.ErrSyntax, 4, 5}, {[]string{"flaw f 0 5:", "  corner 0"}, api.ErrSyntax, 4, 12}, {[]string{"flaw f 0 5:", "  corner 0 0 0"}, api.ErrSyntax, 4, 16}, {[]string{"flaw f 0 5:", "  corner 0 a"}, api.ErrSyntax, 4, 14}, {[]string{"flaw f 0 5:", "  corner 0 1000001"}, api.ErrRange, 4, 14}, {[]string{"flaw f 0 5:", "  corner 0 0:"}, api.ErrSyntax, 4, 5}, {[]string{"flaw f 0 5:", "  corner 0 0", "  corner 1 0:", "    bed b 5"}, api.ErrSyntax, 5, 5}, {[]string{"flaw f 0 5:", "  corner 0 0", "  flaw g 0 5:"}, api.ErrSyntax, 5, 5},
		// Kid by kid, and what lies within one before the next one.
		{[]string{"bed b 5 6", "bed"}, api.ErrSyntax, 3, 11}, {[]string{"flaw f 0 5:", "  corner 0", "bed"}, api.ErrSyntax, 4, 12}, {[]string{"bed b 500", "bed"}, api.ErrSyntax, 4, 3}, {[]string{"flaw f 0 5:", "bed"}, api.ErrSyntax, 4, 3},
		// The errors of Check.
		{[]string{"bed b 5", "bed c 5"}, api.ErrDuplicate, 1, 1}, {[]string{"bed b 5", "bed b 5"}, api.ErrDuplicate, 1, 1}, {[]string{"bed b 5", "joint b x 5 0 5"}, api.ErrDuplicate, 1, 1}, {[]string{"joint j x 30 0 0"}, api.ErrInvalid, 1, 1}, {[]string{"flaw f 0 5:"}, api.ErrInvalid, 1, 1}, {[]string{"flaw f 0 5:", "  corner 0 0", "  corner 0 0", "  corner 1 1"}, api.ErrDuplicate, 1, 1}, {[]string{"flaw f 0 5:", "  corner 0 0", "  corner 0 1", "  corner 1 1"}, api.ErrConflict, 1, 1}, {[]string{"flaw f 0 5:", "  corner 0 0", "  corner 101 0", "  corner 1 1"}, api.ErrOutside, 1, 1},
	} {
		rows := []string{"survey:", "  pit 0 0 0 100 100 100"}
		for _, r := range c.rows {
			rows = append(rows, "  "+r)
		}
		wantFault(t, line(t, rows...), c.code, c.at, c.col)
	}
}

func TestFaultsOfThePit(t *testing.T) {
	for _, c := range []struct {
		row  string
		code api.Errno
		at   int
		col  int
	}{
		{"pit", api.ErrSyntax, 2, 3}, {"pit 0 0 0 1 1", api.ErrSyntax, 2, 15}, {"pit 0 0 0 1 1 1 1", api.ErrSyntax, 2, 19}, {"pit 0 0 a 1 1 1", api.ErrSyntax, 2, 11}, {"pit 0 0 0 1 1 1:", api.ErrSyntax, 2, 3},
		{"pit 0 1000001 0 1 1 1", api.ErrRange, 2, 9}, {"pit 0 0 0 1 1 -1000001", api.ErrRange, 2, 17},
		{"pit 0 0 0 1 0 1", api.ErrInvalid, 1, 1}, {"pit 0 0 2 1 1 1", api.ErrInvalid, 1, 1},
	} {
		wantFault(t, line(t, "survey:", "  "+c.row), c.code, c.at, c.col)
	}
}

func TestFaultsOfTheHeading(t *testing.T) {
	for _, c := range []struct {
		rows []string
		code api.Errno
		col  int
	}{
		{[]string{"survey"}, api.ErrSyntax, 1}, {[]string{"survey a:", "  x"}, api.ErrSyntax, 1}, {[]string{"surveys:"}, api.ErrSyntax, 1}, {[]string{"\"survey\":"}, api.ErrSyntax, 1}, {[]string{"Survey:"}, api.ErrSyntax, 1}, {[]string{"bed b 5"}, api.ErrSyntax, 1}, {[]string{"5:"}, api.ErrSyntax, 1},
		{[]string{"survey:"}, api.ErrNone, 1}, {[]string{"survey:", "  bed b 5000", "  bed b 5"}, api.ErrNone, 1},
	} {
		wantFault(t, line(t, c.rows...), c.code, 1, c.col)
	}
	wantFault(t, line(t, "survey:", "  bed b"), api.ErrSyntax, 2, 7)
}

// Trees that no source has.
func TestLoadOfOtherLines(t *testing.T) {
	wantFault(t, api.Line{}, api.ErrSyntax, 0, 1)
	wantFault(t, api.Line{Heading: true, At: -4}, api.ErrSyntax, -4, 1)
	wantFault(t, api.Line{Heading: true, At: 7, Tokens: []api.Token{{Text: "survey", At: 9}}}, api.ErrSyntax, 7, 9)
	survey := func(kids ...api.Line) api.Line {
		l := line(t, "survey:", "  pit 0 0 0 9 9 9")
		l.At, l.Tokens[0].At = 70, 71
		l.Kids = append(l.Kids, kids...)
		return l
	}
	bed := func(change func(l *api.Line)) api.Line {
		l := line(t, "\n\n  # at the line 4\nbed b 5")
		change(&l)
		return survey(l)
	}
	wantLoad(t, bed(func(l *api.Line) {}), api.Survey{Pit: bx(0, 0, 0, 9, 9, 9), Beds: []api.Bed{{Name: "b", Z: 5}}})
	wantFault(t, survey(api.Line{At: 8}), api.ErrSyntax, 8, 1)
	wantFault(t, survey(api.Line{At: 8, Heading: true, Kids: []api.Line{{}}}), api.ErrSyntax, 8, 1)
	wantFault(t, bed(func(l *api.Line) { l.Tokens[0].Text = "" }), api.ErrSyntax, 4, 1)
	wantFault(t, bed(func(l *api.Line) { l.Tokens[0].Kind = 9 }), api.ErrSyntax, 4, 1)
	wantFault(t, bed(func(l *api.Line) { l.Tokens[1].Text = "" }), api.ErrName, 4, 5)
	wantFault(t, bed(func(l *api.Line) { l.Tokens[1].Text = "a b" }), api.ErrName, 4, 5)
	wantFault(t, bed(func(l *api.Line) { l.Tokens[2].N = math.MaxInt64 }), api.ErrRange, 4, 7)
	wantFault(t, bed(func(l *api.Line) { l.Tokens[2].N = math.MinInt64 }), api.ErrRange, 4, 7)
	wantFault(t, bed(func(l *api.Line) { l.Tokens[2].N, l.Tokens[2].At = top+1, -5 }), api.ErrRange, 4, -5)
	wantFault(t, bed(func(l *api.Line) { l.Kids = []api.Line{{}} }), api.ErrSyntax, 4, 1)
	wantFault(t, bed(func(l *api.Line) { l.Tokens[2].N = 10 }), api.ErrOutside, 70, 71)
	wantLoad(t, bed(func(l *api.Line) { l.Kids = []api.Line{} }), api.Survey{Pit: bx(0, 0, 0, 9, 9, 9), Beds: []api.Bed{{Name: "b", Z: 5}}})
	flaw := line(t, "flaw f 0 1:", "  corner 0 0", "  corner 1 0", "  corner 0 1")
	flaw.Heading = false
	wantFault(t, survey(flaw), api.ErrSyntax, 1, 1)
	flaw.Heading = true
	flaw.Kids[1].Kids = []api.Line{{}}
	wantFault(t, survey(flaw), api.ErrSyntax, 3, 3)
	flaw.Kids[1].Kids, flaw.Kids[2].Tokens = nil, nil
	wantFault(t, survey(flaw), api.ErrSyntax, 4, 1)
}

func TestLoadOfManyKids(t *testing.T) {
	for i, s := range []api.Survey{crowded(api.MaxBeds, api.MaxJoints, api.MaxFlaws), crowded(api.MaxBeds, 0, 0), crowded(0, 0, api.MaxFlaws)} {
		l, e := Line(s)
		if e != api.OK {
			t.Fatalf("Line of the survey %d: %d", i, e)
		}
		wantLoad(t, l, s)
		more := l.Kids[len(l.Kids)-1]
		more.Tokens = slices.Clone(more.Tokens)
		more.Tokens[1].Text = "zz"
		l.Kids = append(l.Kids, more)
		wantFault(t, l, api.ErrTooMany, 0, 0)
	}
}

func TestLine(t *testing.T) {
	for _, c := range []struct {
		s    api.Survey
		want []string
	}{
		{full(), fullRows()},
		{example(), []string{"survey:", "  pit 0 0 0 100 100 100", "  bed b 50", "  joint j x 30 0 60"}},
		{api.Survey{Pit: bx(-top, 0, 0, top, 1, 1), Open: [4]bool{true, true, true, true}}, []string{"survey:", "  pit -1000000 0 0 1000000 1 1", "  open east west north south"}},
		{api.Survey{Pit: bx(0, 0, 0, 9, 9, 9), Open: [4]bool{false, true, true, false}}, []string{"survey:", "  pit 0 0 0 9 9 9", "  open west north"}},
	} {
		l, e := Line(c.s)
		if e != api.OK || !reflect.DeepEqual(l, withoutNumbers(line(t, c.want...))) {
			t.Errorf("Line of %+v: %+v, %d", c.s, l, e)
		}
		if text, e := printer.Print([]api.Line{l}); text != strings.Join(c.want, "\n")+"\n" || e != api.OK {
			t.Errorf("Print of the line of %+v: %q, %d", c.s, text, e)
		}
	}
}

// withoutNumbers returns a line with all numbers of lines and columns 0.
func withoutNumbers(l api.Line) api.Line {
	l.At = 0
	for i := range l.Tokens {
		l.Tokens[i].At = 0
	}
	for i, kid := range l.Kids {
		l.Kids[i] = withoutNumbers(kid)
	}
	return l
}

// expectedFault finds the first fault of a survey's line, apart from what Check says, by the forms of all kids.
func expectedFault(l api.Line) api.Fault {
	forms := map[string]string{"pit": "# # # # # #", "open": "SIDE", "bed": "NAME #", "joint": "NAME AXIS # # #", "flaw": "NAME # #", "corner": "# #"}
	choices := map[string][]string{"SIDE": {"east", "west", "north", "south"}, "AXIS": {"x", "y"}}
	if len(l.Tokens) != 1 || l.Tokens[0].Kind != api.TokWord || l.Tokens[0].Text != "survey" || !l.Heading {
		return parser.Bad(api.ErrSyntax, l, 0)
	}
	once := map[string]bool{}
	check := func(l api.Line, words ...string) api.Fault {
		if len(l.Tokens) == 0 || l.Tokens[0].Kind != api.TokWord || !slices.Contains(words, l.Tokens[0].Text) {
			return parser.Bad(api.ErrSyntax, l, 0)
		}
		word := l.Tokens[0].Text
		if once[word] {
			return parser.Bad(api.ErrDuplicate, l, 0)
		}
		once[word] = word == "pit" || word == "open"
		form := strings.Fields(forms[word])
		for i := 1; i <= len(form) || i < len(l.Tokens); i++ {
			want := "nothing"
			if word == "open" {
				want = "SIDE"
			} else if i <= len(form) {
				want = form[i-1]
			}
			if i >= len(l.Tokens) {
				return parser.Bad(api.ErrSyntax, l, i)
			}
			switch tok := l.Tokens[i]; {
			case want == "#" && tok.Kind == api.TokNumber && (tok.N > top || tok.N < -top):
				return parser.Bad(api.ErrRange, l, i)
			case want == "#" && tok.Kind == api.TokNumber:
			case want == "NAME" && tok.Kind == api.TokWord && !lexer.Name(tok.Text):
				return parser.Bad(api.ErrName, l, i)
			case want == "NAME" && tok.Kind == api.TokWord:
			case tok.Kind == api.TokWord && slices.Contains(choices[want], tok.Text):
				if want == "SIDE" && slices.ContainsFunc(l.Tokens[:i], func(u api.Token) bool { return u.Text == tok.Text }) {
					return parser.Bad(api.ErrDuplicate, l, i)
				}
			default:
				return parser.Bad(api.ErrSyntax, l, i)
			}
		}
		if word == "flaw" && !l.Heading || word != "flaw" && (l.Heading || len(l.Kids) > 0) {
			return parser.Bad(api.ErrSyntax, l, 0)
		}
		return api.Fault{}
	}
	for _, kid := range l.Kids {
		if fault := check(kid, "pit", "open", "bed", "joint", "flaw"); fault.Code != api.OK {
			return fault
		}
		for _, corner := range kid.Kids {
			if fault := check(corner, "corner"); fault.Code != api.OK {
				return fault
			}
		}
	}
	if !once["pit"] {
		return parser.Bad(api.ErrNone, l, 0)
	}
	return api.Fault{}
}

// spoil changes, inserts, repeats or removes tokens and lines of a tree.
func spoil(r *rand.Rand, l *api.Line) {
	if len(l.Kids) > 0 && r.Intn(8) > 0 {
		i := r.Intn(len(l.Kids))
		switch r.Intn(9) {
		case 0:
			l.Kids = slices.Delete(l.Kids, i, i+1)
		case 1:
			l.Kids = slices.Insert(l.Kids, i, l.Kids[r.Intn(len(l.Kids))])
		default:
			spoil(r, &l.Kids[i])
		}
		return
	}
	words := []string{"pit", "open", "bed", "joint", "flaw", "corner", "east", "north", "x", "y", "z", "Q", "survey"}
	tok := api.Token{Kind: 1 + r.Intn(2), At: 1 + r.Intn(90)}
	switch tok.Kind {
	case api.TokWord:
		tok.Text = words[r.Intn(len(words))]
	case api.TokNumber:
		tok.N = []int64{0, 7, -7, top, top + 1, -top - 1}[r.Intn(6)]
	}
	if r.Intn(9) == 0 {
		tok.Kind = api.TokText
	}
	at := r.Intn(len(l.Tokens) + 1)
	switch r.Intn(6) {
	case 0:
		l.Heading = !l.Heading
	case 1:
		l.Tokens = slices.Insert(l.Tokens, at, tok)
	case 2:
		l.Tokens = slices.Delete(l.Tokens, 0, min(1, len(l.Tokens)))
	case 3:
		l.Tokens = slices.Delete(l.Tokens, min(at, len(l.Tokens)), min(at+1, len(l.Tokens)))
	default:
		if at < len(l.Tokens) {
			l.Tokens[at] = tok
		}
	}
}

func TestLoadOfSpoiledLines(t *testing.T) {
	r := rand.New(rand.NewSource(134))
	seen := map[api.Errno]int{}
	for range 40000 {
		l := line(t, fullRows()...)
		for range 1 + r.Intn(3) {
			spoil(r, &l)
		}
		s, fault := Load(l)
		want := expectedFault(l)
		seen[want.Code]++
		if want.Code == api.OK {
			// What is left to find is what Check says of it, at the first token of the survey's line.
			if fault != (api.Fault{}) && fault != parser.Bad(fault.Code, l, 0) {
				t.Fatalf("Load of %+v: %+v", l, fault)
			}
			if e := Check(s); fault == (api.Fault{}) && e != api.OK {
				t.Fatalf("Load of %+v: %+v, which is %d", l, s, e)
			}
			continue
		}
		if fault != want || !reflect.DeepEqual(s, api.Survey{}) {
			t.Fatalf("Load of %+v: %+v, not %+v", l, fault, want)
		}
	}
	for _, code := range []api.Errno{api.OK, api.ErrSyntax, api.ErrName, api.ErrRange, api.ErrDuplicate, api.ErrNone} {
		if seen[code] < 50 {
			t.Errorf("%d lines only have the code %d", seen[code], code)
		}
	}
}

// P13.5

func TestLoadOfCanonicalLines(t *testing.T) {
	r := rand.New(rand.NewSource(136))
	for range 1000 {
		s := randomSurvey(r)
		l, e := Line(s)
		if e != api.OK {
			t.Fatalf("Line of %+v: %d", s, e)
		}
		if got, fault := Load(l); !Equal(got, s) || fault != (api.Fault{}) {
			t.Fatalf("Load of the line of %+v: %+v, %+v", s, got, fault)
		}
		r.Shuffle(len(l.Kids), func(i, k int) { l.Kids[i], l.Kids[k] = l.Kids[k], l.Kids[i] })
		if got, fault := Load(l); !Equal(got, s) || fault != (api.Fault{}) {
			t.Fatalf("Load of the line of %+v in another order: %+v, %+v", s, got, fault)
		}
	}
}

func TestOrderOfCorners(t *testing.T) {
	rows := fullRows()
	rows[9], rows[10], rows[11] = rows[10], rows[11], rows[9]
	s := full()
	s.Flaws[0].Prism.Base = base(40, 0, 0, 40, 0, 0)
	wantLoad(t, line(t, rows...), s)
	rows[9], rows[10] = rows[10], rows[9]
	wantFault(t, line(t, rows...), api.ErrConflict, 1, 1)
}

// P1

func TestLoadAndLineShareNoMemory(t *testing.T) {
	l := line(t, fullRows()...)
	s, _ := Load(l)
	again, _ := Load(l)
	out, _ := Line(s)
	s.Beds[0].Name, s.Joints[0].Name, s.Flaws[0].Name, s.Flaws[0].Prism.Base[0].X = "x", "x", "x", 99
	if !reflect.DeepEqual(l, line(t, fullRows()...)) || !Equal(again, full()) {
		t.Errorf("a change of the survey reaches %+v, %+v", l, again)
	}
	if !parser.Same([]api.Line{out}, []api.Line{l}) {
		t.Errorf("a change of the survey reaches its line: %+v", out)
	}
	out.Kids[8].Kids[0].Tokens[1].N = 55
	if second, _ := Line(full()); !parser.Same([]api.Line{second}, []api.Line{l}) {
		t.Errorf("a change of a line reaches another one: %+v", second)
	}
}
