package parser

import (
	"math/rand"
	"slices"
	"strings"
	"testing"

	"gangsaw/api"
	"gangsaw/lexer"
)

// P10.4

func TestShape(t *testing.T) {
	for _, c := range []struct {
		line, pattern string
	}{
		{"stone a 100", "stone NAME NUMBER"}, {"stone a 100", "stone NAME NUMBER+"}, {"stone a 100", "stone NAME NUMBER*"}, {"stone a", "stone NAME NUMBER*"}, {"stone a 1 2 3", "stone NAME NUMBER*"}, {"stone a 1 2 3", "stone NAME NUMBER+"},
		{"stone A", "stone WORD"}, {"stone A_9 b", "stone WORD+"}, {"stone:", "stone"}, {"WORD name", "WORD WORD"}, {"stone stone", "stone stone"}, {"stone stone", "stone+"}, {"stone", "stone*"},
		{"x = \"A b\"", "NAME = TEXT"}, {"\"a\" \"b\"", "TEXT+"}, {"a 1 \"b\" (", "ANY ANY ANY ANY"}, {"a 1 \"b\" (", "ANY+"}, {"a 1 \"b\" (", "ANY*"}, {"a 1 \"b\" (", "WORD ANY*"},
		{"+", "+"}, {"1 + 2", "NUMBER + NUMBER"}, {"+ + +", "++"}, {"+", "++"}, {"a + +", "a +*"}, {"a", "a +*"}, {"( a , b )", "( NAME , NAME )"},
		{"a b c", "NAME*"}, {"a b c", "NAME NAME NAME NAME*"}, {"a", "a **"},
	} {
		if fault := Shape(line(t, c.line), strings.Fields(c.pattern)); fault != (api.Fault{}) {
			t.Errorf("Shape of %q and %q: %+v", c.line, c.pattern, fault)
		}
	}
}

func TestShapeOfFaults(t *testing.T) {
	for _, c := range []struct {
		line, pattern string
		code          api.Errno
		col           int
	}{
		{"stone a 100", "stone NAME", api.ErrSyntax, 9}, {"stone a 100", "stone NAME NUMBER NUMBER", api.ErrSyntax, 9}, {"stone A", "stone NAME", api.ErrName, 7},
		{"stone a 100", "", api.ErrSyntax, 1}, {"stone a 100", "Stone NAME NUMBER", api.ErrSyntax, 1}, {"stone a 100", "bed NAME NUMBER", api.ErrSyntax, 1}, {"stone a 100", "stone NUMBER NAME", api.ErrSyntax, 7}, {"stone a 100", "stone NAME TEXT", api.ErrSyntax, 9}, {"stone a 100", "stone NAME 100", api.ErrSyntax, 9}, {"stone a 100", "stone NAME NAME", api.ErrSyntax, 9}, {"stone a 100", "stone NAME WORD*", api.ErrSyntax, 9},
		{"stone a", "stone NAME NUMBER+", api.ErrSyntax, 7}, {"stone", "stone NAME NUMBER*", api.ErrSyntax, 1}, {"stone a 1 b 2", "stone NAME NUMBER+", api.ErrSyntax, 11}, {"stone a 1 b 2", "stone NAME NUMBER*", api.ErrSyntax, 11},
		{"a \"b\"", "a b", api.ErrSyntax, 3}, {"\"b\"", "b", api.ErrSyntax, 1}, {"\"b\"", "NAME", api.ErrSyntax, 1}, {"b", "TEXT", api.ErrSyntax, 1}, {"=", "WORD", api.ErrSyntax, 1}, {"\"=\"", "=", api.ErrSyntax, 1}, {"a", "word", api.ErrSyntax, 1}, {"a", "any", api.ErrSyntax, 1}, {"a", "ANY ANY", api.ErrSyntax, 1}, {"a b c", "ANY ANY", api.ErrSyntax, 5}, {"a", "ANY ANY+", api.ErrSyntax, 1},
		{"stone", "stone stone*x", api.ErrSyntax, 1}, {"a a b", "a*", api.ErrSyntax, 5}, {"a a", "a+ a", api.ErrSyntax, 1}, {"1 2", "NUMBER* NUMBER", api.ErrSyntax, 1}, {"a", "+", api.ErrSyntax, 1}, {"+ +", "+", api.ErrSyntax, 3}, {"a +", "a *", api.ErrSyntax, 3}, {"a", "a *", api.ErrSyntax, 1},
		// A word that is no name counts if nothing in front of it is wrong.
		{"stone A", "stone NAME NUMBER", api.ErrName, 7}, {"stone A 1 2", "stone NAME NUMBER", api.ErrName, 7}, {"stone A B", "stone NAME NAME", api.ErrName, 7}, {"stone A B", "stone NAME NUMBER", api.ErrName, 7}, {"stone A", "bed NAME", api.ErrSyntax, 1}, {"5 A", "WORD NAME", api.ErrSyntax, 1},
		{"a b C d", "NAME*", api.ErrName, 5}, {"a b C 5", "NAME+", api.ErrName, 5}, {"a 5 C", "NAME+", api.ErrSyntax, 3}, {strings.Repeat("n", 25), "NAME", api.ErrName, 1},
	} {
		want := api.Fault{Code: c.code, Line: 1, Col: c.col}
		if fault := Shape(line(t, c.line), strings.Fields(c.pattern)); fault != want {
			t.Errorf("Shape of %q and %q: %+v", c.line, c.pattern, fault)
		}
	}
}

func TestShapeOfAnyLines(t *testing.T) {
	odd := plain(5, api.Token{Kind: 9, At: 4}, api.Token{At: -1}, word(6, ""))
	for _, c := range []struct {
		l       api.Line
		pattern []string
		want    api.Fault
	}{
		{plain(5), nil, api.Fault{}}, {plain(5), []string{}, api.Fault{}}, {plain(5), []string{"ANY*"}, api.Fault{}}, {heading(plain(5), odd), nil, api.Fault{}},
		{plain(5), []string{"ANY"}, api.Fault{Code: api.ErrSyntax, Line: 5, Col: 1}}, {plain(5), []string{"ANY+"}, api.Fault{Code: api.ErrSyntax, Line: 5, Col: 1}}, {plain(5), []string{"a", "b*"}, api.Fault{Code: api.ErrSyntax, Line: 5, Col: 1}},
		{odd, []string{"ANY+"}, api.Fault{}}, {odd, []string{"ANY", "ANY", ""}, api.Fault{}}, {odd, []string{"ANY", "ANY", "WORD"}, api.Fault{}}, {odd, []string{"ANY", "ANY", "NAME"}, api.Fault{Code: api.ErrName, Line: 5, Col: 6}},
		{odd, []string{"WORD"}, api.Fault{Code: api.ErrSyntax, Line: 5, Col: 4}}, {odd, []string{"ANY", ""}, api.Fault{Code: api.ErrSyntax, Line: 5, Col: -1}}, {odd, nil, api.Fault{Code: api.ErrSyntax, Line: 5, Col: 4}},
		{plain(5, sign(2, "*")), []string{"*"}, api.Fault{}}, {plain(5, sign(2, "*"), sign(3, "*")), []string{"**"}, api.Fault{}},
		{plain(5, word(2, "é\xe2")), []string{"é\xe2*"}, api.Fault{}}, {plain(5, word(2, "é*")), []string{"é*", "ANY*"}, api.Fault{}},
	} {
		if fault := Shape(c.l, c.pattern); fault != c.want {
			t.Errorf("Shape of %+v and %q: %+v", c.l, c.pattern, fault)
		}
	}
}

// expectedShape is Shape from a token on, by the tokens that are left and the strings for them.
func expectedShape(l api.Line, from int, pattern []string) api.Fault {
	left := l.Tokens[from:]
	lacking, superfluous := len(left) == 0, len(pattern) == 0
	if superfluous {
		if lacking {
			return api.Fault{}
		}
		return Bad(api.ErrSyntax, l, from)
	}
	form, rest := pattern[0], pattern[1:]
	if shorter := strings.TrimSuffix(form, "*"); len(rest) == 0 && len(form) > 1 && shorter != form {
		if lacking {
			return api.Fault{}
		}
		form, rest = shorter, pattern
	} else if shorter := strings.TrimSuffix(form, "+"); len(rest) == 0 && len(form) > 1 && shorter != form {
		form, rest = shorter, []string{shorter + "*"}
	}
	if lacking {
		return Bad(api.ErrSyntax, l, from)
	}
	first := left[0]
	literal := slices.Contains([]int{api.TokWord, api.TokSign}, first.Kind) && first.Text == form
	fits := map[string]bool{"WORD": first.Kind == api.TokWord, "NAME": first.Kind == api.TokWord, "NUMBER": first.Kind == api.TokNumber, "TEXT": first.Kind == api.TokText, "ANY": true}
	if fit, known := fits[form]; known && !fit || !known && !literal {
		return Bad(api.ErrSyntax, l, from)
	}
	if form == "NAME" && !lexer.Name(first.Text) {
		return Bad(api.ErrName, l, from)
	}
	return expectedShape(l, from+1, rest)
}

func TestShapeOfRandomPatterns(t *testing.T) {
	r := rand.New(rand.NewSource(104))
	forms := []string{"WORD", "NAME", "NUMBER", "TEXT", "ANY", "a", "A", "+", "*", "=", "", "ANY*", "a+"}
	kinds := []api.Token{word(0, "a"), word(0, "A"), number(0, 7), text(0, "a"), sign(0, "+"), sign(0, "="), sign(0, "*"), {Kind: 7}}
	found := map[api.Errno]int{}
	for range 300000 {
		l := api.Line{At: 3, Heading: r.Intn(2) == 0}
		var pattern []string
		for i := range r.Intn(5) {
			token := kinds[r.Intn(len(kinds))]
			token.At = 2*i + 1
			l.Tokens = append(l.Tokens, token)
		}
		for range r.Intn(5) {
			pattern = append(pattern, forms[r.Intn(len(forms))])
		}
		if last := len(pattern) - 1; last >= 0 {
			pattern[last] += []string{"", "*", "+"}[r.Intn(3)]
		}
		want := expectedShape(l, 0, pattern)
		if fault := Shape(l, pattern); fault != want {
			t.Fatalf("Shape of %+v and %q: %+v, not %+v", l, pattern, fault, want)
		}
		found[want.Code]++
	}
	if len(found) != 3 {
		t.Errorf("the faults that were found: %v", found)
	}
}
