package printer

import (
	"fmt"
	"math"
	"math/rand"
	"reflect"
	"slices"
	"strings"
	"testing"

	"gangsaw/api"
	"gangsaw/lexer"
	"gangsaw/parser"
)

func word(s string) api.Token { return api.Token{Kind: api.TokWord, Text: s} }

func number(n int64) api.Token { return api.Token{Kind: api.TokNumber, N: n} }

func text(s string) api.Token { return api.Token{Kind: api.TokText, Text: s} }

func sign(s string) api.Token { return api.Token{Kind: api.TokSign, Text: s} }

func plain(tokens ...api.Token) api.Line { return api.Line{Tokens: tokens} }

func heading(l api.Line, kids ...api.Line) api.Line {
	l.Heading, l.Kids = true, kids
	return l
}

// nested returns lines that lie within each other, the last one of which is no heading.
func nested(depth int) []api.Line {
	var inner []api.Line
	for range depth {
		inner = []api.Line{{Tokens: []api.Token{word("a")}, Heading: inner != nil, Kids: inner}}
	}
	return inner
}

// tree returns the tree of a source that has no fault.
func tree(t *testing.T, lines ...string) []api.Line {
	t.Helper()
	out, fault := parser.Parse(strings.Join(lines, "\n"))
	if fault != (api.Fault{}) {
		t.Fatalf("Parse of %q: %+v", lines, fault)
	}
	return out
}

// equal reports whether two trees are equal, At included.
func equal(a, b []api.Line) bool {
	return slices.EqualFunc(a, b, func(l, m api.Line) bool {
		return l.At == m.At && l.Heading == m.Heading && slices.Equal(l.Tokens, m.Tokens) && equal(l.Kids, m.Kids)
	})
}

// wide returns a line whose canonical line has so many bytes (from 41 on).
func wide(length int) api.Line {
	var out []api.Token
	for ; length > 81; length -= 41 {
		out = append(out, word(strings.Repeat("w", 40)))
	}
	first := min(length-2, 40)
	out = append(out, word(strings.Repeat("v", first)), word(strings.Repeat("u", length-first-1)))
	return plain(out...)
}

func TestConstants(t *testing.T) {
	if Keep != 0 || Delete != 1 || Insert != 2 {
		t.Error(Keep, Delete, Insert)
	}
}

// P11.1

func TestToken(t *testing.T) {
	for _, c := range []struct {
		in   api.Token
		want string
		e    api.Errno
	}{
		{word("Wall_1"), "Wall_1", api.OK}, {number(-120), "-120", api.OK}, {number(0), "0", api.OK}, {text("grey (light)"), `"grey (light)"`, api.OK}, {sign(":"), ":", api.OK}, {api.Token{Kind: api.TokWord, Text: "a", At: -9}, "a", api.OK},
		{word(""), "", api.ErrSyntax}, {word("a b"), "", api.ErrSyntax}, {number(lexer.MaxNumber + 1), "", api.ErrSyntax}, {text(" a"), "", api.ErrSyntax}, {sign(";"), "", api.ErrSyntax}, {api.Token{}, "", api.ErrSyntax}, {api.Token{Kind: api.TokWord, Text: "a", N: 1}, "", api.ErrSyntax},
	} {
		if got, e := Token(c.in); got != c.want || e != c.e {
			t.Errorf("Token of %+v: %q, %d", c.in, got, e)
		}
	}
}

func wantPrint(t *testing.T, lines []api.Line, want string) {
	t.Helper()
	if got, e := Print(lines); got != want || e != api.OK {
		t.Errorf("Print: %q, %d, not %q", got, e, want)
	}
	if e := Check(lines); e != api.OK {
		t.Errorf("Check of %q: %d", want, e)
	}
}

func TestPrint(t *testing.T) {
	wantPrint(t, nil, "")
	wantPrint(t, []api.Line{}, "")
	wantPrint(t, tree(t, "wall  south :", "  joint ( 5 , 10 )  # mm"), "wall south:\n  joint (5, 10)\n")
	wantPrint(t, tree(t, "# first", "", "note", "  # second"), "note\n")
	wantPrint(t, tree(t, "a:", "  b:", "    c 1", "  d \"#\" # x", "e"), "a:\n  b:\n    c 1\n  d \"#\"\ne\n")
	for in, want := range map[string]string{
		"a=b<c>d+e/f:g": "a = b < c > d + e / f : g", "f(a,(b,c)),d": "f (a, (b, c)), d", "()": "()", "(())((": "(()) ((", ")a(b": ") a (b", ",,a": ",, a", "(,)": "(,)", "( = )": "(=)", "a::": "a ::", ": :": "::", "::::": ": : ::", "(::": "(::", "):": "):", "(:": "(:", "5-3": "5 -3", "\"a\"\"b\"": "\"a\" \"b\"",
		"\"(\" \")\" \",\" a": "\"(\" \")\" \",\" a", // texts, not signs
		"a \",\":":            "a \",\":",
	} {
		wantPrint(t, tree(t, in), want+"\n")
	}
	wantPrint(t, []api.Line{{Tokens: []api.Token{{Kind: api.TokWord, Text: "a", At: 99}}, At: -5}, plain(text(":"))}, "a\n\":\"\n")
	wantPrint(t, nested(7), "a:\n  a:\n    a:\n      a:\n        a:\n          a:\n            a\n")
	wantPrint(t, []api.Line{heading(plain(word("a")))}, "a:\n")
}

func wantRefused(t *testing.T, what string, lines []api.Line, want api.Errno) {
	t.Helper()
	if e := Check(lines); e != want {
		t.Errorf("Check of %s: %d, not %d", what, e, want)
	}
	if got, e := Print(lines); got != "" || e != want {
		t.Errorf("Print of %s: %q, %d, not %d", what, got, e, want)
	}
	if got, e := Number(lines); len(got) > 0 || e != want {
		t.Errorf("Number of %s: %+v, %d, not %d", what, got, e, want)
	}
}

func TestTreesThatAreNotWellFormed(t *testing.T) {
	a := word("a")
	none, bare, over := api.Line{}, api.Line{Tokens: []api.Token{a}, Kids: []api.Line{plain(a)}}, plain(slices.Repeat([]api.Token{sign("+")}, 65)...)
	wantRefused(t, "a line without tokens", []api.Line{plain(a), none}, api.ErrInvalid)
	wantRefused(t, "an impossible token", []api.Line{heading(plain(a), plain(a, word("1")))}, api.ErrInvalid)
	wantRefused(t, "a colon at the end", []api.Line{plain(a, sign(":"))}, api.ErrInvalid)
	wantRefused(t, "kids of no heading", []api.Line{bare}, api.ErrInvalid)
	wantRefused(t, "too many tokens", []api.Line{over}, api.ErrTooMany)
	wantRefused(t, "too many tokens of a heading", []api.Line{heading(plain(over.Tokens[:64]...))}, api.ErrTooMany)
	wantRefused(t, "too great a depth", nested(8), api.ErrTooMany)
	wantRefused(t, "a very great depth", nested(1<<16), api.ErrTooMany)
	wantRefused(t, "a wide line in front of an impossible one", []api.Line{wide(1001), none}, api.ErrInvalid)
	wantRefused(t, "a very great depth with an impossible line", append(nested(1<<16), none), api.ErrInvalid)
}

func TestWideLines(t *testing.T) {
	for _, length := range []int{lexer.MaxLine - 1, lexer.MaxLine} {
		got, e := Print([]api.Line{wide(length)})
		if len(got) != length+1 || e != api.OK {
			t.Errorf("%d bytes, %d, not %d", len(got), e, length+1)
		}
	}
	wantRefused(t, "a wide line", []api.Line{wide(lexer.MaxLine + 1)}, api.ErrTooMany)
	// The colon and the blanks in front count, too.
	a := plain(word("a"))
	if e := Check([]api.Line{heading(a, heading(wide(lexer.MaxLine-3)), wide(lexer.MaxLine-2))}); e != api.OK {
		t.Errorf("Check of kids: %d", e)
	}
	wantRefused(t, "a wide heading", []api.Line{heading(wide(lexer.MaxLine))}, api.ErrTooMany)
	wantRefused(t, "a wide kid", []api.Line{heading(a, wide(lexer.MaxLine-1))}, api.ErrTooMany)
	wantRefused(t, "a wide kid that is a heading", []api.Line{a, heading(a, heading(a, a, heading(wide(lexer.MaxLine-4)), a))}, api.ErrTooMany)
}

func TestLongSources(t *testing.T) {
	list := slices.Repeat([]api.Line{plain(word("a"))}, api.MaxSource/2)
	got, e := Print(list)
	if len(got) != api.MaxSource || e != api.OK {
		t.Errorf("%d bytes, %d", len(got), e)
	}
	// One more byte: in the line, behind it, as the colon, or in front.
	list[77] = plain(word("ab"))
	wantRefused(t, "a long source", list, api.ErrTooMany)
	list[77] = heading(plain(word("a")))
	wantRefused(t, "a long source with a heading", list, api.ErrTooMany)
	list[77] = plain(word("a"))
	wantRefused(t, "a long source with a further line", append(list, plain(word("a"))), api.ErrTooMany)
	wantRefused(t, "a very long source", slices.Repeat(list, 100), api.ErrTooMany)
	kids := []api.Line{heading(plain(word("a")), slices.Repeat([]api.Line{plain(word("a"))}, (api.MaxSource-3)/4)...), plain(word("b")), plain(word("cd"))}
	if got, e := Print(kids[:1]); len(got) != api.MaxSource-1 || e != api.OK {
		t.Errorf("kids: %d bytes, %d", len(got), e)
	}
	wantRefused(t, "a long source with kids", kids[:2], api.ErrTooMany)
}

// expectedRow is the canonical line as the definition says it: blanks everywhere (here as bytes that no token has), then some are taken away.
func expectedRow(l api.Line, depth int) string {
	blank := "\x00"
	var parts []string
	for _, t := range l.Tokens {
		spelling, _ := lexer.Spell(t)
		if t.Kind == api.TokSign {
			spelling = "\x01" + spelling
		}
		parts = append(parts, spelling)
	}
	s := strings.Join(parts, blank)
	for _, from := range []string{blank + "\x01)", blank + "\x01,"} {
		s = strings.ReplaceAll(s, from, from[1:])
	}
	s = strings.ReplaceAll(s, "\x01("+blank, "\x01(")
	s = strings.ReplaceAll(strings.ReplaceAll(s, "\x01", ""), blank, " ")
	if l.Heading {
		s += ":"
	}
	return strings.Repeat("  ", depth) + s
}

func expectedRows(lines []api.Line, depth int) []string {
	var out []string
	for _, l := range lines {
		out = append(append(out, expectedRow(l, depth)), expectedRows(l.Kids, depth+1)...)
	}
	return out
}

// somes are the tokens of random trees.
func somes() []api.Token {
	return []api.Token{word("a"), word("Bed_2"), number(0), number(-15), text("x"), text("a ) b, ( c"), text("("), text(")"), text(","), text("#"), text(":"),
		sign("("), sign("("), sign(")"), sign(")"), sign(","), sign(","), sign("="), sign(":"), sign("<"), sign(">"), sign("+"), sign("/")}
}

// randomTree returns a tree that can be printed.
func randomTree(r *rand.Rand, depth int) []api.Line {
	var out []api.Line
	list := somes()
	for range r.Intn(4) {
		l := api.Line{Heading: r.Intn(2) == 0, At: r.Intn(9) - 4}
		for range 1 + r.Intn(6) {
			t := list[r.Intn(len(list))]
			t.At = r.Intn(9) - 4
			l.Tokens = append(l.Tokens, t)
		}
		if !l.Heading {
			l.Tokens = append(l.Tokens, word("z"))
		} else if depth < api.MaxIndent {
			l.Kids = randomTree(r, depth+1)
		}
		out = append(out, l)
	}
	return out
}

func TestPrintOfAllPairsOfTokens(t *testing.T) {
	for _, a := range somes() {
		for _, b := range somes() {
			l := heading(plain(a, b))
			wantPrint(t, []api.Line{l}, expectedRow(l, 0)+"\n")
		}
	}
}

func TestPrintOfRandomTrees(t *testing.T) {
	r := rand.New(rand.NewSource(11))
	for range 3000 {
		lines := randomTree(r, 0)
		want := ""
		for _, row := range expectedRows(lines, 0) {
			want += row + "\n"
		}
		wantPrint(t, lines, want)
	}
}

// P11.2

func TestNumber(t *testing.T) {
	at := func(t api.Token, at int) api.Token {
		t.At = at
		return t
	}
	lines := tree(t, "", "wall  south :", "# more", "  joint ( 5 , 10 )  # mm", "    # odd", "  b :", "", "    \"c\"=d", "note")
	want := []api.Line{
		{Tokens: []api.Token{at(word("wall"), 1), at(word("south"), 6)}, Heading: true, At: 1, Kids: []api.Line{
			{Tokens: []api.Token{at(word("joint"), 3), at(sign("("), 9), at(number(5), 10), at(sign(","), 11), at(number(10), 13), at(sign(")"), 15)}, At: 2},
			{Tokens: []api.Token{at(word("b"), 3)}, Heading: true, At: 3, Kids: []api.Line{
				{Tokens: []api.Token{at(text("c"), 5), at(sign("="), 9), at(word("d"), 11)}, At: 4}}}}},
		{Tokens: []api.Token{at(word("note"), 1)}, At: 5},
	}
	if got, e := Number(lines); !equal(got, want) || e != api.OK {
		t.Errorf("Number: %+v, %d", got, e)
	}
	if got, e := Number(nil); len(got) > 0 || e != api.OK {
		t.Errorf("Number of nothing: %+v, %d", got, e)
	}
}

func TestSame(t *testing.T) {
	lines := tree(t, "a 5 (\"x\"):", "  b = 1", "  c:", "    d", "e")
	for i, c := range []struct {
		other []api.Line
		want  bool
	}{
		{tree(t, "# x", "a   5 ( \"x\" ) :", "", "  b=1", "  c:", "    d # x", "e"), true},
		{tree(t, "a 5 (\"x\"):", "  b = 1", "  c:", "    d"), false}, {tree(t, "a 5 (\"x\"):", "  b = 2", "  c:", "    d", "e"), false}, {tree(t, "a 5 (x):", "  b = 1", "  c:", "    d", "e"), false},
		{tree(t, "a 5 (\"x\"):", "  b = 1", "  c:", "    d:", "e"), false}, {tree(t, "a 5 (\"x\"):", "  b = 1", "  c:", "  d", "e"), false}, {nil, false},
	} {
		if Same(lines, c.other) != c.want || Same(c.other, lines) != c.want {
			t.Errorf("Same of %d is not %v", i, c.want)
		}
	}
	// Any trees, those that cannot be printed included.
	if !Same(nil, []api.Line{}) || !Same([]api.Line{{}}, []api.Line{{At: 5}}) || Same([]api.Line{{}}, nil) || !Same(nested(100), nested(100)) || Same(nested(100), nested(101)) {
		t.Error("Same of trees that are not well formed")
	}
}

// P11.3

func TestRows(t *testing.T) {
	for _, c := range []struct {
		source string
		want   []string
		e      api.Errno
	}{
		{"", nil, api.OK}, {"\n # x\n", nil, api.OK},
		{"wall  south :\n  joint ( 5 , 10 )  # mm", []string{"wall south:", "  joint (5, 10)"}, api.OK},
		{"a=b\n\n\n# x\nc", []string{"a = b", "c"}, api.OK}, {"a:\n  b\nc\n", []string{"a:", "  b", "c"}, api.OK},
		{"a\n  b", nil, api.ErrSyntax}, {"007", nil, api.ErrSyntax}, {"\"\"", nil, api.ErrName}, {"1000000000000001", nil, api.ErrRange}, {strings.Repeat("a ", 65), nil, api.ErrTooMany},
		{strings.Repeat("\n", api.MaxSource+1), nil, api.ErrTooMany}, {strings.Repeat(";\n", api.MaxSource), nil, api.ErrTooMany},
		{strings.Repeat("a=", 200) + "\n;", nil, api.ErrTooMany}, {strings.Repeat(";", 200), nil, api.ErrSyntax},
	} {
		if got, e := Rows(c.source); !slices.Equal(got, c.want) || e != c.e {
			t.Errorf("Rows of %q: %q, %d", c.source, got, e)
		}
	}
}

func TestRowsThatAreTooLong(t *testing.T) {
	for _, c := range []struct {
		source string
		want   int
		e      api.Errno
	}{
		// The blanks around signs make lines and sources longer: here 25 times a word of 37 bytes, a blank, a sign and a blank.
		{strings.Repeat(strings.Repeat("w", 37)+"=", 25), 1, api.OK},
		{strings.Repeat(strings.Repeat("w", 37)+"=", 25) + "w", 0, api.ErrTooMany},
		{strings.Repeat("a=b\n", api.MaxSource/6), api.MaxSource / 6, api.OK},
		{strings.Repeat("a=b\n", api.MaxSource/6) + "a", api.MaxSource/6 + 1, api.OK},
		{strings.Repeat("a=b\n", api.MaxSource/6) + "a\nb\nc", 0, api.ErrTooMany},
		{strings.Repeat("a=b\n", api.MaxSource/4), 0, api.ErrTooMany},
	} {
		if got, e := Rows(c.source); len(got) != c.want || e != c.e {
			t.Errorf("Rows of a source with %d bytes: %d rows, %d", len(c.source), len(got), e)
		}
	}
}

// P11.4

func edits(list string) []Edit {
	var out []Edit
	for _, part := range strings.Fields(list) {
		out = append(out, Edit{Kind: strings.IndexByte("=-+", part[0]), Text: part[1:]})
	}
	return out
}

func TestDiff(t *testing.T) {
	for _, c := range []struct{ old, now, want string }{
		{"", "", ""}, {"a", "", "-a"}, {"", "a", "+a"}, {"a", "a", "=a"}, {"a", "b", "-a +b"},
		{"a b c", "b c d", "-a =b =c +d"}, {"a b", "b a", "-a =b +a"}, {"a a", "a", "=a -a"}, {"a", "a a", "=a +a"},
		{"a b", "c b", "-a +c =b"}, {"a b", "c d", "-a -b +c +d"}, {"b a", "a c b", "-b =a +c +b"}, {"a b c", "c a b", "+c =a =b -c"}, {"x a b", "a b x", "-x =a =b +x"},
	} {
		old, now := strings.Fields(c.old), strings.Fields(c.now)
		if got, e := Diff(old, now); !slices.Equal(got, edits(c.want)) || e != api.OK {
			t.Errorf("Diff of %q and %q: %+v, %d", old, now, got, e)
		}
	}
	// Any strings are rows.
	if got, e := Diff([]string{"", "\n"}, []string{"\xff", ""}); !slices.Equal(got, []Edit{{Insert, "\xff"}, {Keep, ""}, {Delete, "\n"}}) || e != api.OK {
		t.Errorf("Diff of odd strings: %+v, %d", got, e)
	}
}

func TestDiffOfManyRows(t *testing.T) {
	full, over := make([]string, 500), make([]string, 501)
	for i := range over {
		over[i] = fmt.Sprint(i % 7)
	}
	copy(full, over[1:])
	if got, e := Diff(full, slices.Repeat([]string{"x"}, 500)); len(got) != 1000 || e != api.OK {
		t.Errorf("%d edits, %d", len(got), e)
	}
	if got, e := Diff(full, full); len(got) != 500 || e != api.OK {
		t.Errorf("%d edits, %d", len(got), e)
	}
	for _, pair := range [][2][]string{{over, nil}, {nil, over}, {over, full}, {full, over}, {over, over}} {
		if got, e := Diff(pair[0], pair[1]); len(got) > 0 || e != api.ErrTooMany {
			t.Errorf("%d and %d rows: %d edits, %d", len(pair[0]), len(pair[1]), len(got), e)
		}
	}
}

// allRows returns all rows of at most so many of some letters.
func allRows(letters []string, most int) [][]string {
	out := [][]string{nil}
	last := out
	for range most {
		var longer [][]string
		for _, rows := range last {
			for _, letter := range letters {
				longer = append(longer, append(slices.Clone(rows), letter))
			}
		}
		out = append(out, longer...)
		last = longer
	}
	return out
}

// expectedDiff looks at all lists of edits that lead from rows to others: of those with the fewest deletions and insertions, the first one counts, if Keep comes before Delete and Delete before Insert.
func expectedDiff(old, now []string) []Edit {
	best, least := []Edit(nil), math.MaxInt
	var list []Edit
	var try func(old, now []string, cost int)
	try = func(old, now []string, cost int) {
		if len(old) == 0 && len(now) == 0 {
			if cost < least {
				best, least = slices.Clone(list), cost
			}
			return
		}
		more := func(kind int, text string, old, now []string, cost int) {
			list = append(list, Edit{kind, text})
			try(old, now, cost)
			list = list[:len(list)-1]
		}
		if len(old) > 0 && len(now) > 0 && old[0] == now[0] {
			more(Keep, old[0], old[1:], now[1:], cost)
		}
		if len(old) > 0 {
			more(Delete, old[0], old[1:], now, cost+1)
		}
		if len(now) > 0 {
			more(Insert, now[0], old, now[1:], cost+1)
		}
	}
	try(old, now, 0)
	return best
}

func TestDiffOfAllShortRows(t *testing.T) {
	all := allRows([]string{"a", "b", "c"}, 4)
	for _, old := range all {
		for _, now := range all {
			if got, e := Diff(old, now); !slices.Equal(got, expectedDiff(old, now)) || e != api.OK {
				t.Fatalf("Diff of %q and %q: %+v, %d, not %+v", old, now, got, e, expectedDiff(old, now))
			}
		}
	}
	all = allRows([]string{"a", "b"}, 6)
	r := rand.New(rand.NewSource(114))
	for range 400 {
		old, now := all[r.Intn(len(all))], all[r.Intn(len(all))]
		if got, e := Diff(old, now); !slices.Equal(got, expectedDiff(old, now)) || e != api.OK {
			t.Fatalf("Diff of %q and %q: %+v, %d, not %+v", old, now, got, e, expectedDiff(old, now))
		}
	}
}

func TestApply(t *testing.T) {
	for _, c := range []struct {
		old, edits, want string
		e                api.Errno
	}{
		{"", "", "", api.OK}, {"a b c", "-a =b =c +d", "b c d", api.OK}, {"a", "+b =a +c +a", "b a c a", api.OK}, {"a", "-a", "", api.OK}, {"a", "+b -a", "b", api.OK},
		{"a", "=b", "", api.ErrConflict}, {"a", "-b", "", api.ErrConflict}, {"", "=a", "", api.ErrConflict}, {"", "-a", "", api.ErrConflict}, {"a", "=a =a", "", api.ErrConflict}, {"a", "=a -a", "", api.ErrConflict},
		{"a", "", "", api.ErrConflict}, {"a b", "=a", "", api.ErrConflict}, {"a", "+a", "", api.ErrConflict}, {"a b", "=b =a", "", api.ErrConflict},
		{"a", "?a", "", api.ErrInvalid}, {"a", "=b ?a", "", api.ErrInvalid}, {"a b", "=a ?", "", api.ErrInvalid},
	} {
		old := strings.Fields(c.old)
		if got, e := Apply(old, edits(c.edits)); !slices.Equal(got, strings.Fields(c.want)) || e != c.e {
			t.Errorf("Apply of %q to %q: %q, %d", c.edits, old, got, e)
		}
	}
	for _, kind := range []int{-1, 3, math.MinInt, math.MaxInt} {
		if got, e := Apply([]string{"a"}, []Edit{{Keep, "b"}, {kind, "a"}}); len(got) > 0 || e != api.ErrInvalid {
			t.Errorf("Apply of the kind %d: %q, %d", kind, got, e)
		}
	}
	long := slices.Repeat([]string{"a"}, 5000)
	if got, e := Apply(long, slices.Repeat([]Edit{{Keep, "a"}}, 5000)); !slices.Equal(got, long) || e != api.OK {
		t.Errorf("Apply to many rows: %d rows, %d", len(got), e)
	}
}

func TestApplyOfAllShortEdits(t *testing.T) {
	var kinds []string
	for _, kind := range []string{"=", "-", "+"} {
		kinds = append(kinds, kind+"a", kind+"b")
	}
	for _, list := range allRows(kinds, 4) {
		for _, old := range allRows([]string{"a", "b"}, 3) {
			// What is kept or deleted, in order, must be just the old rows.
			var taken, want []string
			for _, part := range list {
				if part[0] != '+' {
					taken = append(taken, part[1:])
				}
				if part[0] != '-' {
					want = append(want, part[1:])
				}
			}
			wanted := api.OK
			if !slices.Equal(taken, old) {
				want, wanted = nil, api.ErrConflict
			}
			if got, e := Apply(old, edits(strings.Join(list, " "))); !slices.Equal(got, want) || e != wanted {
				t.Fatalf("Apply of %q to %q: %q, %d", list, old, got, e)
			}
		}
	}
}

func TestInvert(t *testing.T) {
	for _, c := range [][2]string{{"", ""}, {"-a =b =c +d", "+a =b =c -d"}, {"+a -a", "-a +a"}, {"=a", "=a"}} {
		if got := Invert(edits(c[0])); !slices.Equal(got, edits(c[1])) {
			t.Errorf("Invert of %q: %+v", c[0], got)
		}
	}
	odd := []Edit{{7, "a"}, {-1, "b"}, {Delete, "c"}}
	if got := Invert(odd); !slices.Equal(got, []Edit{{7, "a"}, {-1, "b"}, {Insert, "c"}}) {
		t.Errorf("Invert of other kinds: %+v", got)
	}
}

// P11.5

func TestCanonicalSourcesAreReadAgain(t *testing.T) {
	r := rand.New(rand.NewSource(115))
	for range 3000 {
		lines := randomTree(r, 0)
		source, _ := Print(lines)
		numbered, e := Number(lines)
		again, fault := parser.Parse(source)
		if e != api.OK || fault != (api.Fault{}) || !equal(numbered, again) || !Same(lines, again) {
			t.Fatalf("%q: %+v, %d; %+v, %+v", source, numbered, e, again, fault)
		}
		if once, e := Print(again); once != source || e != api.OK {
			t.Fatalf("%q is printed as %q, %d", source, once, e)
		}
		rows, e := Rows(source)
		if got := strings.Join(append(rows, ""), "\n"); got != source || e != api.OK {
			t.Fatalf("Rows of %q: %q, %d", source, rows, e)
		}
	}
}

func TestEditsLeadThereAndBack(t *testing.T) {
	r := rand.New(rand.NewSource(116))
	randomRows := func(letters, count int) []string {
		var out []string
		for range count {
			out = append(out, string(rune('a'+r.Intn(letters))))
		}
		return out
	}
	for range 300 {
		letters := 1 + r.Intn(6)
		old, now := randomRows(letters, r.Intn(60)), randomRows(letters, r.Intn(60))
		list, e := Diff(old, now)
		there, e1 := Apply(old, list)
		back, e2 := Apply(now, Invert(list))
		if !slices.Equal(there, now) || !slices.Equal(back, old) || e != api.OK || e1 != api.OK || e2 != api.OK {
			t.Fatalf("%q and %q: %+v, %d, %d, %d", old, now, list, e, e1, e2)
		}
		kept, _ := Diff(old, old)
		for i, edit := range kept {
			if edit != (Edit{Keep, old[i]}) {
				t.Fatalf("%q and itself: %+v", old, kept)
			}
		}
		if len(kept) != len(old) {
			t.Fatalf("%q and itself: %+v", old, kept)
		}
	}
}

// P1

func TestResultsShareNoMemory(t *testing.T) {
	lines := tree(t, "a 1:", "  b 2:", "    c 3", "d 4")
	before := tree(t, "a 1:", "  b 2:", "    c 3", "d 4")
	first, _ := Number(lines)
	second, _ := Number(lines)
	first[0].Tokens[1].N = 9
	first[0].Kids[0].Heading = false
	first[0].Kids[0].Tokens[0].Text = "x"
	first[0].Kids[0].Kids[0].Tokens[1].N = 9
	first[1] = api.Line{}
	_ = append(first[0].Tokens, word("x"))
	if !reflect.DeepEqual(lines, before) || !reflect.DeepEqual(second, before) {
		t.Errorf("Number: a change of the result reaches other trees: %+v, %+v", lines, second)
	}
	old, list := []string{"a", "b"}, edits("=a =b")
	rows, _ := Apply(old, list)
	rows[0] = "x"
	inverted := Invert(list)
	inverted[0].Text = "x"
	if old[0] != "a" || list[0].Text != "a" {
		t.Errorf("Apply, Invert: a change of the result reaches the arguments: %q, %+v", old, list)
	}
}
