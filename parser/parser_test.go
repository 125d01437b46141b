package parser

import (
	"math"
	"math/rand"
	"reflect"
	"slices"
	"strings"
	"testing"

	"gangsaw/api"
	"gangsaw/lexer"
)

func word(at int, s string) api.Token { return api.Token{Kind: api.TokWord, Text: s, At: at} }

func number(at int, n int64) api.Token { return api.Token{Kind: api.TokNumber, N: n, At: at} }

func text(at int, s string) api.Token { return api.Token{Kind: api.TokText, Text: s, At: at} }

func sign(at int, s string) api.Token { return api.Token{Kind: api.TokSign, Text: s, At: at} }

func plain(at int, tokens ...api.Token) api.Line { return api.Line{Tokens: tokens, At: at} }

func heading(l api.Line, kids ...api.Line) api.Line {
	l.Heading, l.Kids = true, kids
	return l
}

func source(lines ...string) string { return strings.Join(lines, "\n") }

// tree returns the tree of a source that has no fault.
func tree(t *testing.T, lines ...string) []api.Line {
	t.Helper()
	out, fault := Parse(source(lines...))
	if fault != (api.Fault{}) {
		t.Fatalf("Parse of %q: %+v", lines, fault)
	}
	return out
}

func line(t *testing.T, s string) api.Line {
	t.Helper()
	return tree(t, s)[0]
}

// equal reports whether two trees are equal, At included.
func equal(a, b []api.Line) bool {
	return slices.EqualFunc(a, b, func(l, m api.Line) bool {
		return l.At == m.At && l.Heading == m.Heading && slices.Equal(l.Tokens, m.Tokens) && equal(l.Kids, m.Kids)
	})
}

// nested returns lines that lie within each other, the last one of which is no heading.
func nested(depth int) []api.Line {
	var inner []api.Line
	for range depth {
		inner = []api.Line{{Tokens: []api.Token{word(1, "a")}, Heading: inner != nil, Kids: inner}}
	}
	return inner
}

func wantTree(t *testing.T, text string, want ...api.Line) {
	t.Helper()
	got, fault := Parse(text)
	if !equal(got, want) || fault != (api.Fault{}) {
		t.Errorf("Parse of %q: %+v, %+v, not %+v", text, got, fault, want)
	}
}

func wantFault(t *testing.T, text string, code api.Errno, at, col int) {
	t.Helper()
	got, fault := Parse(text)
	if len(got) > 0 || fault != (api.Fault{Code: code, Line: at, Col: col}) {
		t.Errorf("Parse of %q: %+v, %+v, not %d at %d, %d", text, got, fault, code, at, col)
	}
}

// P10.1

func TestParse(t *testing.T) {
	wantTree(t, "")
	wantTree(t, "\n\n")
	wantTree(t, "# nothing\n   # at all\n     \n")
	wantTree(t, "note", plain(1, word(1, "note")))
	wantTree(t, source("wall south:", "  stone a 100", "  stone b 120", "note"),
		heading(plain(1, word(1, "wall"), word(6, "south")),
			plain(2, word(3, "stone"), word(9, "a"), number(11, 100)),
			plain(3, word(3, "stone"), word(9, "b"), number(11, 120))),
		plain(4, word(1, "note")))
	wantTree(t, "\n# first\na:\n\n # odd\n  b # more\n", heading(plain(3, word(1, "a")), plain(6, word(3, "b"))))
	wantTree(t, "a:\nb:", heading(plain(1, word(1, "a"))), heading(plain(2, word(1, "b"))))
	wantTree(t, "::\n  \"x\" <", heading(plain(1, sign(1, ":")), plain(2, text(3, "x"), sign(7, "<"))))
	wantTree(t, source("a:", "  b:", "    c:", "      d", "    e", "  f:", "    g", "h"),
		heading(plain(1, word(1, "a")),
			heading(plain(2, word(3, "b")),
				heading(plain(3, word(5, "c")), plain(4, word(7, "d"))),
				plain(5, word(5, "e"))),
			heading(plain(6, word(3, "f")), plain(7, word(5, "g")))),
		plain(8, word(1, "h")))
	wantTree(t, source("a:", "  b:", "    c:", "      d:", "        e:", "          f:", "            g:", "  h"),
		heading(plain(1, word(1, "a")),
			heading(plain(2, word(3, "b")), heading(plain(3, word(5, "c")), heading(plain(4, word(7, "d")),
				heading(plain(5, word(9, "e")), heading(plain(6, word(11, "f")), heading(plain(7, word(13, "g")))))))),
			plain(8, word(3, "h"))))
}

func TestParseOfFaults(t *testing.T) {
	for _, c := range []struct {
		text    string
		code    api.Errno
		at, col int
	}{
		{"note\n  stone a", api.ErrSyntax, 2, 3},
		{"  note", api.ErrSyntax, 1, 3}, {"\n#\n  note", api.ErrSyntax, 3, 3}, {"    \n  note:", api.ErrSyntax, 2, 3},
		{"a:\n    b", api.ErrSyntax, 2, 5}, {"a:\n  b\n    c", api.ErrSyntax, 3, 5}, {"a:\n  b:\n  c\n    d", api.ErrSyntax, 4, 5},
		{"a:\n  b:\nc\n  d", api.ErrSyntax, 4, 3}, {"a:\n  b:\nc:\n    d", api.ErrSyntax, 4, 5}, {"a\n\n  # c\n\n  b", api.ErrSyntax, 5, 3},
		{"a:\n b", api.ErrSyntax, 2, 2}, {"a\n007", api.ErrSyntax, 2, 1}, {"a:\n  :", api.ErrSyntax, 2, 3}, {"a:\n  \"\"", api.ErrName, 2, 3}, {"a\nb 1000000000000001\n;", api.ErrRange, 2, 3}, {"a\r\n", api.ErrSyntax, 1, 2},
		{"a\n  b\n;", api.ErrSyntax, 2, 3}, {"a\n;\n  b", api.ErrSyntax, 2, 1}, // line by line
		{"a\n  b ;", api.ErrSyntax, 2, 5}, // what is wrong with a line comes before its depth
		{"a\n              b", api.ErrTooMany, 2, 15},
		{"a\n# " + strings.Repeat("x", lexer.MaxLine), api.ErrTooMany, 2, lexer.MaxLine + 1},
		{source("a:", "  b:", "    c:", "      d:", "        e:", "          f:", "            g:", "              h"), api.ErrTooMany, 8, 15},
		{source("a", strings.Repeat("+", 64)+":"), api.ErrTooMany, 2, 65},
		{strings.Repeat(";\n", api.MaxSource/2) + ";", api.ErrTooMany, 1, 1},
	} {
		wantFault(t, c.text, c.code, c.at, c.col)
	}
}

func TestParseOfLongSources(t *testing.T) {
	text := strings.Repeat("a\n", api.MaxSource/2)
	if got, fault := Parse(text); len(got) != api.MaxSource/2 || fault != (api.Fault{}) {
		t.Errorf("%d lines, %+v", len(got), fault)
	}
	wantFault(t, text+"\n", api.ErrTooMany, 1, 1)
	wantFault(t, strings.Repeat("\n", api.MaxSource+1), api.ErrTooMany, 1, 1)
	// Many kids, so that the lists that open lines are in have to grow.
	deep := "a:\n  b:\n" + strings.Repeat("    c\n", 3000) + "  d:\n    e\n"
	want := Total{Lines: 3004, Tokens: 3004, Depth: 3}
	if got := Measure(tree(t, deep)); got != want {
		t.Errorf("%+v", got)
	}
}

// expected is Parse as the definitions say it: each line looks for the last line before it whose depth is one less.
func expected(text string) ([]api.Line, api.Fault) {
	type row struct {
		depth int
		line  api.Line
	}
	var rows []row
	for i, s := range strings.Split(text, "\n") {
		scanned, fault := lexer.Scan(s)
		if fault.Code != api.OK {
			return nil, api.Fault{Code: fault.Code, Line: i + 1, Col: fault.Col}
		}
		if len(scanned.Tokens) == 0 {
			continue
		}
		r := row{scanned.Indent, api.Line{Tokens: scanned.Tokens, Heading: scanned.Heading, At: i + 1}}
		ok := r.depth == 0
		if len(rows) > 0 {
			before := rows[len(rows)-1]
			ok = r.depth <= before.depth || r.depth == before.depth+1 && before.line.Heading
		}
		if !ok {
			return nil, api.Fault{Code: api.ErrSyntax, Line: i + 1, Col: scanned.Tokens[0].At}
		}
		rows = append(rows, r)
	}
	var kids func(parent int) []api.Line
	kids = func(parent int) []api.Line {
		var out []api.Line
		for i, r := range rows {
			home := -1
			for k := range i {
				if rows[k].depth == r.depth-1 {
					home = k
				}
			}
			if home == parent {
				r.line.Kids = kids(i)
				out = append(out, r.line)
			}
		}
		return out
	}
	return kids(-1), api.Fault{}
}

func compareWithExpected(t *testing.T, text string) {
	t.Helper()
	got, fault := Parse(text)
	want, wanted := expected(text)
	if !equal(got, want) || fault != wanted {
		t.Fatalf("Parse of %q: %+v, %+v, not %+v, %+v", text, got, fault, want, wanted)
	}
}

func TestParseOfAllShortSources(t *testing.T) {
	kinds := []string{"", "#", "a", "b:", "  c", "  d:", "    e", "    f:", "      g"}
	texts := []string{""}
	for range 5 {
		var longer []string
		for _, text := range texts {
			for _, kind := range kinds {
				longer = append(longer, text+kind+"\n")
			}
		}
		for _, text := range longer {
			compareWithExpected(t, text)
			compareWithExpected(t, strings.TrimSuffix(text, "\n"))
		}
		texts = longer
	}
}

// randomSource returns a source of which most lines have a depth that is possible.
func randomSource(r *rand.Rand) string {
	var lines []string
	most := 0
	for range r.Intn(40) {
		depth := r.Intn(most + 1)
		s := strings.Repeat("  ", depth) + []string{"a", "b 5", `"c" = (1, 2)`, "d + e"}[r.Intn(4)]
		switch r.Intn(60) {
		case 0:
			s = "  " + s
		case 1:
			s = " " + s
		case 2:
			s += " 007"
		case 3, 4, 5, 6:
			lines = append(lines, strings.Repeat(" ", r.Intn(9))+[]string{"", "# x:"}[r.Intn(2)])
		}
		most = depth
		if r.Intn(2) == 0 {
			s += ":"
			most = min(most+1, api.MaxIndent)
		}
		lines = append(lines, s)
	}
	return source(lines...)
}

func TestParseOfRandomSources(t *testing.T) {
	r := rand.New(rand.NewSource(10))
	for range 5000 {
		compareWithExpected(t, randomSource(r))
	}
}

// P10.2

func tokens(count int) []api.Token {
	var out []api.Token
	for range count {
		out = append(out, sign(0, "+"))
	}
	return out
}

func TestCheck(t *testing.T) {
	a := word(0, "a")
	none, colon, bad := api.Line{}, plain(0, a, sign(0, ":")), plain(0, a, word(0, "_"))
	bare := api.Line{Tokens: []api.Token{a}, Kids: []api.Line{plain(0, a)}}
	full, over := plain(0, tokens(64)...), plain(0, tokens(65)...)
	inner := func(l api.Line) api.Line {
		return heading(plain(0, a), plain(0, a), heading(plain(0, a), l), plain(0, a))
	}
	for i, c := range []struct {
		lines []api.Line
		want  api.Errno
	}{
		{nil, api.OK}, {[]api.Line{}, api.OK},
		{[]api.Line{plain(-5, word(-7, "a"), number(math.MinInt, 0), text(math.MaxInt, "b"))}, api.OK},
		{[]api.Line{heading(plain(0, a))}, api.OK}, {[]api.Line{{Tokens: []api.Token{a}, Kids: []api.Line{}}}, api.OK},
		{[]api.Line{heading(colon)}, api.OK}, {[]api.Line{heading(plain(0, sign(0, ":")))}, api.OK}, {[]api.Line{plain(0, sign(0, ":"), a)}, api.OK}, {[]api.Line{plain(0, text(0, ":"))}, api.OK},
		{[]api.Line{full}, api.OK}, {[]api.Line{heading(plain(0, tokens(63)...))}, api.OK},
		{nested(7), api.OK},
		{[]api.Line{none}, api.ErrInvalid}, {[]api.Line{heading(none)}, api.ErrInvalid}, {[]api.Line{{Tokens: []api.Token{}}}, api.ErrInvalid},
		{[]api.Line{colon}, api.ErrInvalid}, {[]api.Line{plain(0, sign(0, ":"))}, api.ErrInvalid}, {[]api.Line{bad}, api.ErrInvalid}, {[]api.Line{plain(0, api.Token{}, a)}, api.ErrInvalid}, {[]api.Line{bare}, api.ErrInvalid},
		{[]api.Line{inner(none)}, api.ErrInvalid}, {[]api.Line{inner(colon)}, api.ErrInvalid}, {[]api.Line{inner(bad)}, api.ErrInvalid}, {[]api.Line{inner(bare)}, api.ErrInvalid},
		{[]api.Line{over}, api.ErrTooMany}, {[]api.Line{heading(full)}, api.ErrTooMany}, {[]api.Line{inner(over)}, api.ErrTooMany}, {[]api.Line{inner(heading(full))}, api.ErrTooMany},
		{nested(8), api.ErrTooMany}, {nested(1 << 16), api.ErrTooMany}, {append(nested(7), nested(8)...), api.ErrTooMany},
		// An impossible line anywhere comes before the limits.
		{[]api.Line{over, none}, api.ErrInvalid}, {append(nested(8), bare), api.ErrInvalid}, {[]api.Line{heading(full), inner(colon)}, api.ErrInvalid}, {[]api.Line{plain(0, append(tokens(64), sign(0, ":"))...)}, api.ErrInvalid},
	} {
		if e := Check(c.lines); e != c.want {
			t.Errorf("%d: %d, not %d", i, e, c.want)
		}
	}
	deepest := nested(1 << 16)
	at := &deepest[0]
	for len(at.Kids) > 0 {
		at = &at.Kids[0]
	}
	at.Tokens = nil
	if e := Check(deepest); e != api.ErrInvalid {
		t.Errorf("an impossible line in the depth: %d", e)
	}
}

func TestMeasure(t *testing.T) {
	for _, c := range []struct {
		lines []api.Line
		want  Total
	}{
		{nil, Total{}}, {[]api.Line{}, Total{}},
		{tree(t, "wall south:", "  stone a 100", "  stone b 120", "note"), Total{4, 9, 2}},
		{tree(t, "a", "b", "c d"), Total{3, 4, 1}},
		{tree(t, "a:", "  b:", "    c", "d:", "  e"), Total{5, 5, 3}}, {tree(t, "d:", "  e", "a:", "  b:", "    c"), Total{5, 5, 3}},
		{[]api.Line{{}}, Total{1, 0, 1}}, {[]api.Line{{Kids: []api.Line{{}, {}}}}, Total{3, 0, 2}}, // any tree
		{[]api.Line{plain(0, tokens(99)...), {Kids: nested(3)}}, Total{5, 102, 4}},
		{nested(1 << 16), Total{1 << 16, 1 << 16, 1 << 16}},
	} {
		if got := Measure(c.lines); got != c.want {
			t.Errorf("Measure: %+v, not %+v", got, c.want)
		}
	}
}

func TestSame(t *testing.T) {
	base := func() []api.Line { return tree(t, "a 5 \"x\":", "  b = 1", "  c:", "    d", "e") }
	list := [][]api.Line{
		nil, base(),
		tree(t, "a 5 \"x\"", "e"), tree(t, "a 5 \"x\":", "  b = 1", "  c:", "    d"), tree(t, "e", "a 5 \"x\":", "  b = 1", "  c:", "    d"),
		tree(t, "a 5 \"x\":", "  b = 1", "  c", "e"), tree(t, "a 5 \"x\":", "  b = 1", "  c:", "e"), tree(t, "a 5 \"x\":", "  b = 1", "  c:", "  d", "e"),
		tree(t, "a 6 \"x\":", "  b = 1", "  c:", "    d", "e"), tree(t, "a 5 \"y\":", "  b = 1", "  c:", "    d", "e"), tree(t, "a 5 x:", "  b = 1", "  c:", "    d", "e"), tree(t, "a 5 \"x\":", "  b = 1", "  c:", "    D", "e"), tree(t, "a 5 \"x\":", "  b = 1", "  c:", "    d", "e f"),
		{{}}, {{Heading: true}}, {{Kids: []api.Line{{}}}}, {{}, {}}, nested(100), nested(101),
		{plain(0, api.Token{})}, {plain(0, api.Token{Kind: 9})}, {plain(0, api.Token{N: 1})}, {plain(0, api.Token{Text: "a"})},
	}
	for i, a := range list {
		for k, b := range list {
			if Same(a, b) != (i == k) {
				t.Errorf("Same of %d and %d: %v", i, k, i != k)
			}
		}
	}
	moved := base()
	moved[0].At, moved[1].At, moved[0].Tokens[1].At, moved[0].Kids[1].Kids[0].At, moved[0].Kids[1].Kids[0].Tokens[0].At = 7, -1, math.MaxInt, 0, math.MinInt
	if !Same(base(), moved) || !Same(moved, base()) {
		t.Errorf("Same looks at At")
	}
	if !Same([]api.Line{}, nil) || !Same([]api.Line{{Tokens: []api.Token{}, Kids: []api.Line{}}}, []api.Line{{}}) {
		t.Errorf("Same: nil and empty lists are not the same")
	}
}

// P10.3

func TestWord(t *testing.T) {
	for _, c := range []struct {
		l    api.Line
		want string
	}{
		{api.Line{}, ""}, {plain(1, word(1, "a"), word(2, "b")), "a"}, {plain(1, number(1, 5), word(2, "b")), ""}, {plain(1, text(1, "a")), ""}, {plain(1, sign(1, "(")), ""},
		{heading(plain(1, word(1, "Wall"))), "Wall"}, {api.Line{Kids: []api.Line{plain(1, word(1, "a"))}}, ""}, {plain(1, api.Token{Text: "a"}), ""}, {plain(1, word(0, "no word")), "no word"},
	} {
		if got := Word(c.l); got != c.want {
			t.Errorf("Word of %+v: %q", c.l, got)
		}
	}
}

func TestPick(t *testing.T) {
	lines := tree(t, "a 1", "b:", "  a 2", "a:", "  c", "    # c", "\"a\"", "5", "A", "a a")
	for word, want := range map[string][]int{"a": {0, 2, 6}, "b": {1}, "A": {5}, "c": nil, "5": nil, "": {3, 4}} {
		var wanted []api.Line
		for _, i := range want {
			wanted = append(wanted, lines[i])
		}
		if got := Pick(lines, word); !equal(got, wanted) {
			t.Errorf("Pick of %q: %+v", word, got)
		}
	}
	if got := Pick(nil, "a"); len(got) > 0 {
		t.Errorf("Pick of nothing: %+v", got)
	}
	if got := Pick(nested(1<<16), "a"); Measure(got).Depth != 1<<16 {
		t.Errorf("Pick of a deep tree: %+v", Measure(got))
	}
}

func TestPickSharesNoMemory(t *testing.T) {
	lines := tree(t, "a 1:", "  b 2:", "    c 3", "a 4:", "  d")
	before := tree(t, "a 1:", "  b 2:", "    c 3", "a 4:", "  d")
	first, second := Pick(lines, "a"), Pick(lines, "a")
	if !reflect.DeepEqual(first, before) {
		t.Fatalf("%+v", first)
	}
	first[0].Tokens[1].N = 9
	first[0].Kids[0].Heading = false
	first[0].Kids[0].Tokens[0].Text = "x"
	first[0].Kids[0].Kids[0].Tokens[1].N = 9
	first[1].Kids[0] = api.Line{}
	if !equal(lines, before) || !equal(second, before) {
		t.Errorf("a change of the result reaches other trees: %+v, %+v", lines, second)
	}
}

func TestOnly(t *testing.T) {
	lines := tree(t, "a 1", "b:", "  c", "a", "  # d", "b 5")
	for _, words := range [][]string{{"a", "b"}, {"b", "x", "a"}, {"a", "a", "b"}} {
		if fault := Only(lines, words); fault != (api.Fault{}) {
			t.Errorf("Only of %q: %+v", words, fault)
		}
	}
	if fault := Only(nil, nil); fault != (api.Fault{}) {
		t.Errorf("Only of nothing: %+v", fault)
	}
	for _, c := range []struct {
		lines   []api.Line
		words   []string
		at, col int
	}{
		{lines, []string{"a"}, 2, 1}, {lines, []string{"b", "c"}, 1, 1}, {lines, nil, 1, 1}, {lines, []string{"A", "b"}, 1, 1}, {lines, []string{""}, 1, 1},
		{lines[1].Kids, []string{"a", "b"}, 3, 3},
		{tree(t, "a", "\"a\""), []string{"a"}, 2, 1}, {tree(t, "a", "5"), []string{"a", "5"}, 2, 1}, {tree(t, "a", "= a"), []string{"a", "="}, 2, 1},
		{[]api.Line{plain(8, number(6, 5))}, []string{"a", ""}, 8, 6}, // A number is no word, not even an empty one.
		{[]api.Line{{At: 9}}, []string{"a", ""}, 9, 1},
		{[]api.Line{plain(4, word(-3, "b"), word(5, "a"))}, []string{"a"}, 4, -3},
	} {
		if fault := Only(c.lines, c.words); fault != (api.Fault{Code: api.ErrSyntax, Line: c.at, Col: c.col}) {
			t.Errorf("Only of %+v and %q: %+v", c.lines, c.words, fault)
		}
	}
}

// P10.4

func TestBad(t *testing.T) {
	three := plain(7, word(3, "a"), number(5, 6), word(8, "b"))
	for _, c := range []struct {
		l          api.Line
		token, col int
	}{
		{three, 0, 3}, {three, 1, 5}, {three, 2, 8}, {three, 3, 8}, {three, 4, 8}, {three, -1, 8}, {three, math.MaxInt, 8}, {three, math.MinInt, 8},
		{plain(7), 0, 1}, {plain(7), -1, 1}, {plain(7), 5, 1}, {heading(plain(7, sign(-2, ":"))), 1, -2},
	} {
		for _, code := range []api.Errno{api.ErrSyntax, api.ErrStale, -3, 99} {
			if fault := Bad(code, c.l, c.token); fault != (api.Fault{Code: code, Line: 7, Col: c.col}) {
				t.Errorf("Bad at %d of %+v: %+v", c.token, c.l, fault)
			}
		}
	}
}

// P10.5

func TestTreesOfSourcesAreWellFormed(t *testing.T) {
	r := rand.New(rand.NewSource(105))
	for range 3000 {
		text := randomSource(r)
		lines, fault := Parse(text)
		if e := Check(lines); e != api.OK {
			t.Fatalf("Check of the tree of %q: %d", text, e)
		}
		// Lines without tokens, and comments, change only At.
		var more []string
		for _, s := range strings.Split(text, "\n") {
			more = append(more, "#", s+" # x:", "   ")
		}
		again, later := Parse(source(more...))
		if !Same(lines, again) || later.Code != fault.Code || later.Col != fault.Col {
			t.Fatalf("%q: comments lead to %+v, %+v", text, again, later)
		}
	}
}

func TestBeginningsOfSources(t *testing.T) {
	r := rand.New(rand.NewSource(106))
	for range 1000 {
		lines := strings.Split(randomSource(r), "\n")
		_, fault := Parse(source(lines...))
		for count := range lines {
			want := api.Fault{}
			if fault.Line <= count {
				want = fault
			}
			if _, got := Parse(source(lines[:count]...)); got != want {
				t.Fatalf("%d lines of %q: %+v", count, lines, got)
			}
		}
	}
}

// P1

func TestTreesShareNoMemory(t *testing.T) {
	text := source("a 1 2:", "  b:", "    c", "a 1 2:", "  b:", "    c")
	first, second := tree(t, text), tree(t, text)
	_ = append(first[0].Kids, plain(0, word(0, "x")))
	_ = append(first[0].Tokens, word(0, "x"))
	first[0].Tokens[0].Text = "x"
	first[0].Kids[0].Kids[0].Tokens[0].Text = "x"
	first[0].Kids[0].Tokens[0].Text = "x"
	if !equal(first[1:], second[1:]) || !equal(second, tree(t, text)) {
		t.Errorf("%+v, %+v", first, second)
	}
}
