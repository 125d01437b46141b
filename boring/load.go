package boring

import (
	"gangsaw/api"
	"gangsaw/parser"
	"gangsaw/row"
)

// The words of the lines of a boring.
const (
	headWord   = "boring"
	placeWord  = "at"
	soundWord  = "sound"
	flawedWord = "flawed"
)

// Load returns the boring of a line and its kids, or the first fault.
func Load(l api.Line) (api.Boring, api.Fault) {
	if fault := shape(l, headWord, "NAME", placeWord, "NUMBER", "NUMBER"); fault.Code != api.OK {
		return api.Boring{}, fault
	}
	if !l.Heading {
		return api.Boring{}, parser.Bad(api.ErrSyntax, l, 0)
	}
	b := api.Boring{Name: l.Tokens[1].Text, At: api.Point{X: int(l.Tokens[3].N), Y: int(l.Tokens[4].N)}}
	for _, kid := range l.Kids {
		log, fault := loadLog(kid)
		if fault.Code != api.OK {
			return api.Boring{}, fault
		}
		b.Logs = append(b.Logs, log)
	}
	if e := checkFormed(b); e != api.OK {
		return api.Boring{}, parser.Bad(e, l, 0)
	}
	return b, api.Fault{}
}

// Line returns the canonical line of a boring.
func Line(b api.Boring) (api.Line, api.Errno) {
	if e := checkFormed(b); e != api.OK {
		return api.Line{}, e
	}
	l := row.Heading(headWord, row.Word(b.Name), row.Word(placeWord), row.Number(b.At.X), row.Number(b.At.Y))
	for _, log := range b.Logs {
		word := soundWord
		if log.State == api.Flawed {
			word = flawedWord
		}
		l.Kids = append(l.Kids, row.Of(word, row.Number(log.Lo), row.Number(log.Hi)))
	}
	return l, api.OK
}

func loadLog(l api.Line) (api.Log, api.Fault) {
	word, state := parser.Word(l), api.Unseen
	switch word {
	case soundWord:
		state = api.Sound
	case flawedWord:
		state = api.Flawed
	}
	if state == api.Unseen || l.Heading || len(l.Kids) > 0 {
		return api.Log{}, parser.Bad(api.ErrSyntax, l, 0)
	}
	if fault := shape(l, word, "NUMBER", "NUMBER"); fault.Code != api.OK {
		return api.Log{}, fault
	}
	return api.Log{Lo: int(l.Tokens[1].N), Hi: int(l.Tokens[2].N), State: state}, api.Fault{}
}

// shape returns the fault of a line that does not have the form of a pattern, or has a number that is out of range.
func shape(l api.Line, pattern ...string) api.Fault {
	if fault := parser.Shape(l, pattern); fault.Code != api.OK {
		return fault
	}
	for i, t := range l.Tokens {
		if t.Kind == api.TokNumber && (t.N < -api.MaxCoord || t.N > api.MaxCoord) {
			return parser.Bad(api.ErrRange, l, i)
		}
	}
	return api.Fault{}
}
