package survey

import (
	"cmp"
	"slices"

	"gangsaw/api"
	"gangsaw/lexer"
	"gangsaw/parser"
	"gangsaw/row"
)

// The words of the lines of a survey.
const (
	headWord   = "survey"
	pitWord    = "pit"
	openWord   = "open"
	bedWord    = "bed"
	jointWord  = "joint"
	flawWord   = "flaw"
	cornerWord = "corner"
)

// sideWords returns the words of the sides by their directions.
func sideWords() [4]string { return [4]string{"east", "west", "north", "south"} }

// axisWords returns the words of the axes by their numbers.
func axisWords() [2]string { return [2]string{"x", "y"} }

// reader reads the tokens of a line from left to right. Behind the first fault, all that it reads is zero.
type reader struct {
	line  api.Line
	next  int
	fault api.Fault
}

// Load returns the survey of a line with its kids, or the first fault.
func Load(l api.Line) (api.Survey, api.Fault) {
	if len(l.Tokens) != 1 || parser.Word(l) != headWord || !l.Heading {
		return api.Survey{}, parser.Bad(api.ErrSyntax, l, 0)
	}
	s, fault := loadKids(l)
	if fault.Code != api.OK {
		return api.Survey{}, fault
	}
	slices.SortStableFunc(s.Beds, func(a, b api.Bed) int {
		return cmp.Or(cmp.Compare(a.Z, b.Z), cmp.Compare(a.Name, b.Name))
	})
	slices.SortStableFunc(s.Joints, byNameOfJoint)
	slices.SortStableFunc(s.Flaws, byNameOfFlaw)
	if e := Check(s); e != api.OK {
		return api.Survey{}, parser.Bad(e, l, 0)
	}
	return s, api.Fault{}
}

// Line returns the canonical line of a survey.
func Line(s api.Survey) (api.Line, api.Errno) {
	if e := Check(s); e != api.OK {
		return api.Line{}, e
	}
	least, most := s.Pit.Min, s.Pit.Max
	kids := []api.Line{row.Of(pitWord,
		row.Number(least.X), row.Number(least.Y), row.Number(least.Z), row.Number(most.X), row.Number(most.Y), row.Number(most.Z))}
	open := row.Of(openWord)
	for side, word := range sideWords() {
		if s.Open[side] {
			open.Tokens = append(open.Tokens, row.Word(word))
		}
	}
	if len(open.Tokens) > 1 {
		kids = append(kids, open)
	}
	for _, bed := range s.Beds {
		kids = append(kids, row.Of(bedWord, row.Word(bed.Name), row.Number(bed.Z)))
	}
	axes := axisWords()
	for _, j := range s.Joints {
		kids = append(kids, row.Of(jointWord,
			row.Word(j.Name), row.Word(axes[j.Axis]), row.Number(j.At), row.Number(j.Lo), row.Number(j.Hi)))
	}
	for _, f := range s.Flaws {
		kids = append(kids, lineOfFlaw(f))
	}
	l := row.Heading(headWord)
	l.Kids = kids
	return l, api.OK
}

func lineOfFlaw(f api.Flaw) api.Line {
	l := row.Heading(flawWord, row.Word(f.Name), row.Number(f.Prism.Lo), row.Number(f.Prism.Hi))
	for _, p := range f.Prism.Base {
		l.Kids = append(l.Kids, row.Of(cornerWord, row.Number(p.X), row.Number(p.Y)))
	}
	return l
}

// loadKids returns what the kids of a survey's line say, in their order.
func loadKids(l api.Line) (api.Survey, api.Fault) {
	var s api.Survey
	pits, opens := 0, 0
	for _, kid := range l.Kids {
		switch parser.Word(kid) {
		case pitWord:
			pits++
		case openWord:
			opens++
		}
		if pits > 1 || opens > 1 {
			return api.Survey{}, parser.Bad(api.ErrDuplicate, kid, 0)
		}
		if fault := loadKid(&s, kid); fault.Code != api.OK {
			return api.Survey{}, fault
		}
	}
	if pits == 0 {
		return api.Survey{}, parser.Bad(api.ErrNone, l, 0)
	}
	return s, api.Fault{}
}

// loadKid adds to a survey what a kid of its line says.
func loadKid(s *api.Survey, l api.Line) api.Fault {
	r := &reader{line: l, next: 1}
	switch parser.Word(l) {
	case pitWord:
		s.Pit = api.Box{Min: r.point(), Max: r.point()}
	case openWord:
		s.Open = r.open()
	case bedWord:
		s.Beds = append(s.Beds, api.Bed{Name: r.name(), Z: r.number()})
	case jointWord:
		axes := axisWords()
		s.Joints = append(s.Joints, api.Joint{Name: r.name(), Axis: r.word(axes[:]), At: r.number(), Lo: r.number(), Hi: r.number()})
	case flawWord:
		f, fault := loadFlaw(l)
		s.Flaws = append(s.Flaws, f)
		return fault
	default:
		return parser.Bad(api.ErrSyntax, l, 0)
	}
	return r.end(false)
}

func loadFlaw(l api.Line) (api.Flaw, api.Fault) {
	r := &reader{line: l, next: 1}
	f := api.Flaw{Name: r.name(), Prism: api.Prism{Lo: r.number(), Hi: r.number()}}
	if fault := r.end(true); fault.Code != api.OK {
		return api.Flaw{}, fault
	}
	for _, kid := range l.Kids {
		if parser.Word(kid) != cornerWord {
			return api.Flaw{}, parser.Bad(api.ErrSyntax, kid, 0)
		}
		r := &reader{line: kid, next: 1}
		f.Prism.Base = append(f.Prism.Base, api.Point{X: r.number(), Y: r.number()})
		if fault := r.end(false); fault.Code != api.OK {
			return api.Flaw{}, fault
		}
	}
	return f, api.Fault{}
}

// fail keeps the fault of a code at a token, if it is the first one.
func (r *reader) fail(code api.Errno, token int) {
	if r.fault.Code == api.OK {
		r.fault = parser.Bad(code, r.line, token)
	}
}

// more reports whether a token is left to read.
func (r *reader) more() bool { return r.fault.Code == api.OK && r.next < len(r.line.Tokens) }

// token reads a token of a kind. The second result is its number.
func (r *reader) token(kind int) (api.Token, int) {
	at := r.next
	if !r.more() || r.line.Tokens[at].Kind != kind {
		r.fail(api.ErrSyntax, at)
		return api.Token{}, at
	}
	r.next++
	return r.line.Tokens[at], at
}

func (r *reader) name() string {
	t, at := r.token(api.TokWord)
	if !lexer.Name(t.Text) {
		r.fail(api.ErrName, at)
	}
	return t.Text
}

func (r *reader) number() int {
	t, at := r.token(api.TokNumber)
	if t.N < -api.MaxCoord || t.N > api.MaxCoord {
		r.fail(api.ErrRange, at)
		return 0
	}
	return int(t.N)
}

func (r *reader) point() api.Vec { return api.Vec{X: r.number(), Y: r.number(), Z: r.number()} }

// word reads one of some words and returns its index.
func (r *reader) word(list []string) int {
	t, at := r.token(api.TokWord)
	i := slices.Index(list, t.Text)
	if i < 0 {
		r.fail(api.ErrSyntax, at)
		return 0
	}
	return i
}

// open reads one side or more, each at most once.
func (r *reader) open() [4]bool {
	var open [4]bool
	words := sideWords()
	for first := true; first || r.more(); first = false {
		at := r.next
		side := r.word(words[:])
		if open[side] {
			r.fail(api.ErrDuplicate, at)
		}
		open[side] = true
	}
	return open
}

// end returns the fault of a line that is read, whose tokens have to end here. It has to be a heading, or to have no kids.
func (r *reader) end(heading bool) api.Fault {
	if r.more() {
		r.fail(api.ErrSyntax, r.next)
	}
	if r.line.Heading != heading || !heading && len(r.line.Kids) > 0 {
		r.fail(api.ErrSyntax, 0)
	}
	return r.fault
}
