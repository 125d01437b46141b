package lexer

import (
	"math"
	"math/big"
	"math/rand"
	"regexp"
	"slices"
	"strconv"
	"strings"
	"testing"

	"gangsaw/api"
)

func wordAt(at int, s string) api.Token { return api.Token{Kind: api.TokWord, Text: s, At: at} }

func numberAt(at int, n int64) api.Token { return api.Token{Kind: api.TokNumber, N: n, At: at} }

func textAt(at int, s string) api.Token { return api.Token{Kind: api.TokText, Text: s, At: at} }

func signAt(at int, s string) api.Token { return api.Token{Kind: api.TokSign, Text: s, At: at} }

func scanned(indent int, heading bool, comment string, tokens ...api.Token) Scanned {
	return Scanned{Indent: indent, Tokens: tokens, Heading: heading, Comment: comment}
}

func same(a, b Scanned) bool {
	return a.Indent == b.Indent && a.Heading == b.Heading && a.Comment == b.Comment && slices.Equal(a.Tokens, b.Tokens)
}

// wantScan reports a line that has other contents or another fault. With a fault, the contents must be zero.
func wantScan(t *testing.T, line string, want Scanned, code api.Errno, col int) {
	t.Helper()
	s, fault := Scan(line)
	if !same(s, want) || fault != (api.Fault{Code: code, Col: col}) {
		t.Errorf("Scan of %q: %+v, %+v, not %+v, %d at %d", line, s, fault, want, code, col)
	}
}

func wantFault(t *testing.T, line string, code api.Errno, col int) {
	t.Helper()
	wantScan(t, line, Scanned{}, code, col)
}

// P9.1

func TestScanOfLines(t *testing.T) {
	for _, c := range []struct {
		line string
		want Scanned
	}{
		{"  bed = upper, -120  # seen", scanned(1, false, " seen", wordAt(3, "bed"), signAt(7, "="), wordAt(9, "upper"), signAt(14, ","), numberAt(16, -120))},
		{"wall south:", scanned(0, true, "", wordAt(1, "wall"), wordAt(6, "south"))},
		{"", Scanned{}},
		{"   ", Scanned{}},
		{"#", Scanned{}},
		{" # odd # blanks\n\"12a", scanned(0, false, " odd # blanks\n\"12a")},
		{strings.Repeat(" ", 15) + "#:", scanned(0, false, ":")},
		{"note#", scanned(0, false, "", wordAt(1, "note"))},
		{"note :# a: ", scanned(0, true, " a: ", wordAt(1, "note"))},
		{"note:    ", scanned(0, true, "", wordAt(1, "note"))},
		{"a::", scanned(0, true, "", wordAt(1, "a"), signAt(2, ":"))},
		{"::", scanned(0, true, "", signAt(1, ":"))},
		{": a", scanned(0, false, "", signAt(1, ":"), wordAt(3, "a"))},
		{`":"`, scanned(0, false, "", textAt(1, ":"))},
		{"(),=:<>+/", scanned(0, false, "", signAt(1, "("), signAt(2, ")"), signAt(3, ","), signAt(4, "="), signAt(5, ":"), signAt(6, "<"), signAt(7, ">"), signAt(8, "+"), signAt(9, "/"))},
		{"Zz_9 q", scanned(0, false, "", wordAt(1, "Zz_9"), wordAt(6, "q"))},
		{"0 -1 10 7", scanned(0, false, "", numberAt(1, 0), numberAt(3, -1), numberAt(6, 10), numberAt(9, 7))},
		{"a-3-4", scanned(0, false, "", wordAt(1, "a"), numberAt(2, -3), numberAt(4, -4))},
		{`1"a b"2"#"x`, scanned(0, false, "", numberAt(1, 1), textAt(2, "a b"), numberAt(7, 2), textAt(8, "#"), wordAt(11, "x"))},
		{`"~!" "A: (b), 00 -0"`, scanned(0, false, "", textAt(1, "~!"), textAt(6, "A: (b), 00 -0"))},
		{"1000000000000000 -1000000000000000", scanned(0, false, "", numberAt(1, MaxNumber), numberAt(18, -MaxNumber))},
		{strings.Repeat(" ", 12) + "a:", scanned(6, true, "", wordAt(13, "a"))},
	} {
		wantScan(t, c.line, c.want, api.OK, 0)
	}
}

func TestScanOfFaults(t *testing.T) {
	long := strings.Repeat("9", 300)
	for _, c := range []struct {
		line string
		code api.Errno
		col  int
	}{
		{":", api.ErrSyntax, 1},
		{"  :  # alone", api.ErrSyntax, 3},
		{"007", api.ErrSyntax, 1}, {"00", api.ErrSyntax, 1}, {"12a", api.ErrSyntax, 1}, {"12_", api.ErrSyntax, 1}, {"12Z", api.ErrSyntax, 1},
		{"-0", api.ErrSyntax, 1}, {"-00", api.ErrSyntax, 1}, {"-01", api.ErrSyntax, 1}, {"-", api.ErrSyntax, 1}, {"--1", api.ErrSyntax, 1}, {"- 1", api.ErrSyntax, 1}, {"-a", api.ErrSyntax, 1}, {"-1a", api.ErrSyntax, 1}, {"0x", api.ErrSyntax, 1},
		{"0-0", api.ErrSyntax, 2}, {"a 0 01", api.ErrSyntax, 5},
		{`"a`, api.ErrSyntax, 1}, {`"`, api.ErrSyntax, 1}, {`"a" "`, api.ErrSyntax, 5}, {`"a # b`, api.ErrSyntax, 1},
		{`""`, api.ErrName, 1}, {`" a"`, api.ErrName, 1}, {`"a "`, api.ErrName, 1}, {`" "`, api.ErrName, 1}, {"\"a\tb\"", api.ErrName, 1}, {"\"a\x7f\"", api.ErrName, 1}, {"\"é\"", api.ErrName, 1}, {"\"a\nb\"", api.ErrName, 1},
		{"_a", api.ErrSyntax, 1}, {"a\tb", api.ErrSyntax, 2}, {"a\n", api.ErrSyntax, 2}, {"\r", api.ErrSyntax, 1}, {"é", api.ErrSyntax, 1}, {"aé", api.ErrSyntax, 2}, {"a\x00", api.ErrSyntax, 2}, {"\xff", api.ErrSyntax, 1},
		{"a;", api.ErrSyntax, 2}, {"a.b", api.ErrSyntax, 2}, {"a*", api.ErrSyntax, 2}, {"'a'", api.ErrSyntax, 1}, {"[a]", api.ErrSyntax, 1}, {"a @:", api.ErrSyntax, 3},
		{"1000000000000001", api.ErrRange, 1}, {"a -1000000000000001", api.ErrRange, 3}, {"9223372036854775808", api.ErrRange, 1}, {"-9223372036854775808", api.ErrRange, 1}, {"-9223372036854775809", api.ErrRange, 1}, {"18446744073709551617", api.ErrRange, 1}, {long, api.ErrRange, 1},
		{long + "a", api.ErrSyntax, 1}, {"0" + long, api.ErrSyntax, 1}, {"-0" + long, api.ErrSyntax, 1}, // the shape of a number comes before its range
		{strings.Repeat("a", 41), api.ErrName, 1}, {"b " + strings.Repeat("A_0", 14), api.ErrName, 3},
		{`"` + strings.Repeat("a", 41) + `"`, api.ErrName, 1},
		// From left to right.
		{strings.Repeat("a", 41) + " 007", api.ErrName, 1}, {"007 " + strings.Repeat("a", 41), api.ErrSyntax, 1}, {"1000000000000001 ;", api.ErrRange, 1}, {`"" 1000000000000001`, api.ErrName, 1},
	} {
		wantFault(t, c.line, c.code, c.col)
	}
}

func TestScanOfIndentations(t *testing.T) {
	for blanks := range 40 {
		front := strings.Repeat(" ", blanks)
		code, col := api.OK, 0
		switch {
		case blanks%2 == 1:
			code, col = api.ErrSyntax, blanks+1
		case blanks > 12:
			code, col = api.ErrTooMany, blanks+1
		}
		want := scanned(blanks/2, false, "", wordAt(blanks+1, "a"))
		if code != api.OK {
			want = Scanned{}
		}
		wantScan(t, front+"a", want, code, col)
		wantScan(t, front, Scanned{}, api.OK, 0)
		wantScan(t, front+"# a", scanned(0, false, " a"), api.OK, 0)
		// The indentation comes before what is wrong with the first token.
		if code == api.OK {
			code, col = api.ErrSyntax, blanks+1
		}
		wantFault(t, front+":", code, col)
		wantFault(t, front+"007", code, col)
	}
}

func TestScanOfLongLines(t *testing.T) {
	comment := "#" + strings.Repeat("x", MaxLine-1)
	wantScan(t, comment, scanned(0, false, comment[1:]), api.OK, 0)
	wantScan(t, strings.Repeat(" ", MaxLine), Scanned{}, api.OK, 0)
	wantScan(t, "a"+strings.Repeat(" ", MaxLine-2)+"b", scanned(0, false, "", wordAt(1, "a"), wordAt(MaxLine, "b")), api.OK, 0)
	for _, line := range []string{comment + "x", strings.Repeat(" ", MaxLine+1), " ;" + strings.Repeat("7", MaxLine), strings.Repeat("a ", 5000)} {
		wantFault(t, line, api.ErrTooMany, MaxLine+1)
	}
}

func TestScanOfManyTokens(t *testing.T) {
	var tokens []api.Token
	for i := range MaxTokens {
		tokens = append(tokens, signAt(i+1, "+"))
	}
	full := strings.Repeat("+", MaxTokens)
	wantScan(t, full, scanned(0, false, "", tokens...), api.OK, 0)
	wantScan(t, full+"   # more", scanned(0, false, " more", tokens...), api.OK, 0)
	wantScan(t, full[1:]+":", scanned(0, true, "", tokens[:MaxTokens-1]...), api.OK, 0)
}

// The colon of a heading counts as one of the tokens that a line may have.
func TestScanOfTooManyTokens(t *testing.T) {
	full := strings.Repeat("+", MaxTokens)
	for _, more := range []string{"+", ":", "a", "007", ";", `"`, `""`, "1000000000000001", strings.Repeat("a", 41), "\xff", "+#"} {
		wantFault(t, full+more, api.ErrTooMany, MaxTokens+1)
		wantFault(t, full+"   "+more, api.ErrTooMany, MaxTokens+4)
	}
	s, fault := Scan(full[2:] + "::")
	if fault != (api.Fault{}) || !s.Heading || len(s.Tokens) != MaxTokens-1 || s.Tokens[MaxTokens-2] != signAt(MaxTokens-1, ":") {
		t.Errorf("%+v, %+v", s, fault)
	}
	wantFault(t, ";"+full+"+", api.ErrSyntax, 1)
}

// expected is Scan as the definitions say it, with expressions for the tokens.
func expected(line string) (Scanned, api.Fault) {
	refuse := func(code api.Errno, at int) (Scanned, api.Fault) {
		return Scanned{}, api.Fault{Code: code, Col: at + 1}
	}
	if len(line) > 1000 {
		return refuse(api.ErrTooMany, 1000)
	}
	trimmed := strings.TrimLeft(line, " ")
	blanks := len(line) - len(trimmed)
	if trimmed == "" {
		return Scanned{}, api.Fault{}
	}
	if trimmed[0] == '#' {
		return Scanned{Comment: trimmed[1:]}, api.Fault{}
	}
	if blanks%2 == 1 {
		return refuse(api.ErrSyntax, blanks)
	}
	if blanks > 12 {
		return refuse(api.ErrTooMany, blanks)
	}
	s := Scanned{Indent: blanks / 2}
	for rest := trimmed; rest != ""; {
		at := len(line) - len(rest)
		if rest[0] == ' ' {
			rest = rest[1:]
			continue
		}
		if rest[0] == '#' {
			s.Comment = rest[1:]
			break
		}
		if len(s.Tokens) == 64 {
			return refuse(api.ErrTooMany, at)
		}
		token, length, code := expectedToken(rest)
		if code != api.OK {
			return refuse(code, at)
		}
		token.At = at + 1
		s.Tokens = append(s.Tokens, token)
		rest = rest[length:]
	}
	last := s.Tokens[len(s.Tokens)-1]
	if last.Kind == api.TokSign && last.Text == ":" {
		if len(s.Tokens) == 1 {
			return refuse(api.ErrSyntax, last.At-1)
		}
		s.Tokens, s.Heading = s.Tokens[:len(s.Tokens)-1], true
	}
	return s, api.Fault{}
}

var (
	aWord   = regexp.MustCompile(`^[A-Za-z][A-Za-z0-9_]*`)
	digits  = regexp.MustCompile(`^-?[0-9]+`)
	aNumber = regexp.MustCompile(`^(?s:(0|-?[1-9][0-9]*)([^A-Za-z0-9_].*)?)$`)
	aText   = regexp.MustCompile(`^"([^"]*)"`)
	aSign   = regexp.MustCompile(`^[(),=:<>+/]`)
	aLabel  = regexp.MustCompile(`^[!#-~]([ !#-~]{0,38}[!#-~])?$`)
	aName   = regexp.MustCompile(`^[a-z][a-z0-9_]{0,23}$`)
)

func expectedToken(rest string) (api.Token, int, api.Errno) {
	if w := aWord.FindString(rest); w != "" {
		if len(w) > 40 {
			return api.Token{}, 0, api.ErrName
		}
		return wordAt(0, w), len(w), api.OK
	}
	if d := digits.FindString(rest); d != "" {
		if !aNumber.MatchString(rest) {
			return api.Token{}, 0, api.ErrSyntax
		}
		n, _ := new(big.Int).SetString(d, 10)
		if n.CmpAbs(big.NewInt(1e15)) > 0 {
			return api.Token{}, 0, api.ErrRange
		}
		return numberAt(0, n.Int64()), len(d), api.OK
	}
	if found := aText.FindStringSubmatch(rest); found != nil {
		if !aLabel.MatchString(found[1]) {
			return api.Token{}, 0, api.ErrName
		}
		return textAt(0, found[1]), len(found[0]), api.OK
	}
	if m := aSign.FindString(rest); m != "" {
		return signAt(0, m), 1, api.OK
	}
	return api.Token{}, 0, api.ErrSyntax
}

func compareWithExpected(t *testing.T, line string) {
	t.Helper()
	want, fault := expected(line)
	wantScan(t, line, want, fault.Code, fault.Col)
	if t.Failed() {
		t.FailNow() // Of so many lines, the first one says enough.
	}
}

func TestScanOfAllShortLines(t *testing.T) {
	const letters = "aZ_01-\" #:;"
	lines := []string{""}
	for range 5 {
		var longer []string
		for _, line := range lines {
			compareWithExpected(t, line)
			for _, c := range letters {
				longer = append(longer, line+string(c))
			}
		}
		lines = longer
	}
	for _, line := range lines {
		compareWithExpected(t, line)
	}
}

func TestScanOfSingleBytes(t *testing.T) {
	for b := range 256 {
		for _, front := range []string{"", "a", "1", "-", "\"", "+"} {
			for _, behind := range []string{"", "a", "1", "\""} {
				compareWithExpected(t, front+string([]byte{byte(b)})+behind)
			}
		}
	}
}

// randomLine returns a line of parts that are often near a limit.
func randomLine(r *rand.Rand) string {
	line := strings.Repeat(" ", r.Intn(16))
	for range r.Intn(80) {
		part := []string{"a", "Bed_2", "0", "-17", "100", "(", ")", ",", "=", ":", "<", ">", "+", "/", `"a b"`, `"#"`, "  ", " "}[r.Intn(18)]
		switch r.Intn(600) {
		case 0:
			part = strings.Repeat("w", 38+r.Intn(5))
		case 1:
			part = `"` + strings.Repeat("-", 38+r.Intn(5)) + `"`
		case 2:
			part = strconv.FormatInt(1e15-1+r.Int63n(4), 10)
		case 3:
			part = "-" + strconv.FormatInt(1e15-1+r.Int63n(4), 10)
		case 4:
			part = strings.Repeat(" ", r.Intn(900))
		case 5:
			part = string([]byte{byte(r.Intn(256))})
		case 6:
			part = "#"
		case 7:
			part = `"`
		}
		line += part
		if r.Intn(3) > 0 {
			line += " "
		}
	}
	return line
}

func TestScanOfRandomLines(t *testing.T) {
	r := rand.New(rand.NewSource(9))
	for range 50000 {
		compareWithExpected(t, randomLine(r))
	}
}

// P9.2

func TestLines(t *testing.T) {
	for source, want := range map[string][]string{
		"": nil, "\n": {""}, "\n\n": {"", ""}, "a": {"a"}, "a\n": {"a"}, "a\n\n": {"a", ""}, "a\nb": {"a", "b"}, "\na": {"", "a"},
		" \n ": {" ", " "}, "a\r\nb\t": {"a\r", "b\t"}, "\xff\n\x00": {"\xff", "\x00"}, "a\n\n\nb\n": {"a", "", "", "b"},
	} {
		if lines, e := Lines(source); e != api.OK || !slices.Equal(lines, want) {
			t.Errorf("Lines of %q: %q, %d", source, lines, e)
		}
	}
}

func TestLinesOfLongSources(t *testing.T) {
	for _, source := range []string{strings.Repeat("\n", api.MaxSource), strings.Repeat("x", api.MaxSource)} {
		lines, e := Lines(source)
		if e != api.OK || strings.Join(lines, "\n") != strings.TrimSuffix(source, "\n") {
			t.Errorf("%d lines, %d", len(lines), e)
		}
		if lines, e := Lines(source + "\n"); e != api.ErrTooMany || lines != nil {
			t.Errorf("a source that is too long: %d lines, %d", len(lines), e)
		}
	}
}

func TestNamesAndLabels(t *testing.T) {
	for _, c := range []struct {
		s           string
		name, label bool
	}{
		{"", false, false}, {"a", true, true}, {"z9_", true, true}, {"A", false, true}, {"aB", false, true}, {"9", false, true}, {"_a", false, true}, {"a b", false, true}, {"a-b", false, true},
		{" a", false, false}, {"a ", false, false}, {" ", false, false}, {"a\"", false, false}, {"\"", false, false}, {"a\n", false, false}, {"a\x7f", false, false}, {"a\x1f", false, false}, {"~", false, true}, {"!", false, true}, {"é", false, false}, {"a\xffb", false, false}, {"#:", false, true},
		{strings.Repeat("n", 24), true, true}, {strings.Repeat("n", 25), false, true}, {strings.Repeat("n", 40), false, true}, {strings.Repeat("n", 41), false, false},
	} {
		if Name(c.s) != c.name || Label(c.s) != c.label {
			t.Errorf("Name and Label of %q: %v, %v", c.s, Name(c.s), Label(c.s))
		}
	}
}

func TestNamesAndLabelsOfAllBytes(t *testing.T) {
	for b := range 256 {
		one := string([]byte{byte(b)})
		for _, s := range []string{one, one + "a", "a" + one, "a" + one + "a", one + one} {
			if Name(s) != aName.MatchString(s) || Label(s) != aLabel.MatchString(s) {
				t.Errorf("Name and Label of %q: %v, %v", s, Name(s), Label(s))
			}
		}
	}
}

// P9.3

func TestValidAndSpell(t *testing.T) {
	for _, c := range []struct {
		token api.Token
		want  string
	}{
		{wordAt(0, "a"), "a"}, {wordAt(7, "Z_9"), "Z_9"}, {wordAt(-1, strings.Repeat("w", 40)), strings.Repeat("w", 40)}, {wordAt(math.MaxInt, "b"), "b"},
		{numberAt(0, 0), "0"}, {numberAt(0, -5), "-5"}, {numberAt(0, 120), "120"}, {numberAt(0, MaxNumber), "1000000000000000"}, {numberAt(0, -MaxNumber), "-1000000000000000"},
		{textAt(0, "a b"), `"a b"`}, {textAt(math.MinInt, "#"), `"#"`}, {textAt(0, "007"), `"007"`}, {textAt(0, strings.Repeat("(", 40)), `"` + strings.Repeat("(", 40) + `"`},
		{signAt(0, "("), "("}, {signAt(0, ")"), ")"}, {signAt(0, ","), ","}, {signAt(0, "="), "="}, {signAt(0, ":"), ":"}, {signAt(0, "<"), "<"}, {signAt(0, ">"), ">"}, {signAt(0, "+"), "+"}, {signAt(0, "/"), "/"},
	} {
		if s, e := Spell(c.token); !Valid(c.token) || s != c.want || e != api.OK {
			t.Errorf("%+v: %v, %q, %d", c.token, Valid(c.token), s, e)
		}
	}
}

func TestInvalidTokens(t *testing.T) {
	list := []api.Token{
		{}, {At: 1}, {Kind: 5, Text: "a"}, {Kind: -1, Text: "a"}, {Text: "a"}, {Kind: math.MaxInt},
		wordAt(1, ""), wordAt(1, "_a"), wordAt(1, "1a"), wordAt(1, "a b"), wordAt(1, "a-"), wordAt(1, "é"), wordAt(1, " a"), wordAt(1, "a\n"), wordAt(1, "="), wordAt(1, strings.Repeat("w", 41)),
		numberAt(1, MaxNumber+1), numberAt(1, -MaxNumber-1), numberAt(1, math.MaxInt64), numberAt(1, math.MinInt64),
		textAt(1, ""), textAt(1, " a"), textAt(1, "a "), textAt(1, `a"b`), textAt(1, "a\tb"), textAt(1, strings.Repeat("a", 41)), textAt(1, "\xff"),
		signAt(1, ""), signAt(1, "#"), signAt(1, "-"), signAt(1, "()"), signAt(1, "::"), signAt(1, "a"), signAt(1, " "), signAt(1, "\""), signAt(1, "*"),
	}
	for _, token := range []api.Token{wordAt(1, "a"), textAt(1, "a"), signAt(1, "(")} {
		token.N = 1
		list = append(list, token)
		token.N = math.MinInt64
		list = append(list, token)
	}
	for _, s := range []string{"1", "a", "0"} {
		list = append(list, api.Token{Kind: api.TokNumber, N: 1, Text: s})
	}
	for _, token := range list {
		if s, e := Spell(token); Valid(token) || s != "" || e != api.ErrSyntax {
			t.Errorf("%+v: %v, %q, %d", token, Valid(token), s, e)
		}
	}
}

// A token is valid if and only if its spelling, in a line where it is not the colon at the end, is scanned as this token.
func TestValidAgreesWithScan(t *testing.T) {
	texts := []string{""}
	for range 2 {
		for _, s := range slices.Clone(texts) {
			for b := range 130 {
				texts = append(texts, s+string([]byte{byte(b)}))
			}
		}
	}
	for _, s := range texts {
		for kind, spelling := range map[int]string{api.TokWord: s, api.TokText: `"` + s + `"`, api.TokSign: s} {
			token := api.Token{Kind: kind, Text: s}
			found, _ := Scan(spelling + " a")
			scanned := len(found.Tokens) == 2
			if scanned {
				found.Tokens[0].At = 0
				scanned = found.Tokens[0] == token
			}
			if Valid(token) != scanned {
				t.Fatalf("Valid of %+v: %v", token, Valid(token))
			}
		}
	}
}

// P9.4

func randomToken(r *rand.Rand) api.Token {
	pick := func(letters string, most int) string {
		var out []byte
		for range r.Intn(most + 1) {
			out = append(out, letters[r.Intn(len(letters))])
		}
		return string(out)
	}
	switch r.Intn(4) {
	case 0:
		return wordAt(0, "azAZ"[r.Intn(4):][:1]+pick("aZ_09", 39))
	case 1:
		return numberAt(0, (r.Int63n(2*MaxNumber+1)-MaxNumber)>>r.Intn(50))
	case 2:
		return textAt(0, "("+pick("aZ_09 #:;!~", 38)+"~")
	}
	return signAt(0, signs[r.Intn(len(signs)):][:1])
}

// withoutColumns returns tokens without their columns, which must increase.
func withoutColumns(t *testing.T, tokens []api.Token) []api.Token {
	t.Helper()
	out, before := slices.Clone(tokens), 0
	for i := range out {
		if out[i].At <= before {
			t.Errorf("the columns of %+v do not increase", tokens)
		}
		before, out[i].At = out[i].At, 0
	}
	return out
}

func TestSpellingsAreScannedAsTheirTokens(t *testing.T) {
	r := rand.New(rand.NewSource(94))
	for range 20000 {
		var tokens []api.Token
		var plain, wide string
		indent := strings.Repeat(" ", 2*r.Intn(7))
		for range 1 + r.Intn(20) {
			token := randomToken(r)
			s, e := Spell(token)
			if e != api.OK {
				t.Fatalf("Spell of %+v: %d", token, e)
			}
			tokens = append(tokens, token)
			plain += " " + s
			wide += strings.Repeat(" ", 1+r.Intn(3)) + s
		}
		plain, wide = indent+plain[1:], indent+strings.TrimLeft(wide, " ")+"  # a comment:"
		want := Scanned{Indent: len(indent) / 2, Tokens: tokens}
		if last := len(tokens) - 1; tokens[last] == signAt(0, ":") {
			want.Tokens, want.Heading = tokens[:last], true
			if last == 0 {
				wantFault(t, plain, api.ErrSyntax, len(indent)+1)
				wantFault(t, wide, api.ErrSyntax, len(indent)+1)
				continue
			}
		}
		for _, line := range []string{plain, wide} {
			s, fault := Scan(line)
			want.Comment = ""
			if line == wide {
				want.Comment = " a comment:"
			}
			s.Tokens = withoutColumns(t, s.Tokens)
			if fault != (api.Fault{}) || !same(s, want) {
				t.Fatalf("Scan of %q: %+v, %+v", line, s, fault)
			}
		}
	}
}

// Each token of a line is valid, and stands in its column.
func TestTokensStandInTheirColumns(t *testing.T) {
	r := rand.New(rand.NewSource(93))
	for range 20000 {
		line := randomLine(r)
		s, _ := Scan(line)
		for _, token := range s.Tokens {
			if spelling, e := Spell(token); e != api.OK || !strings.HasPrefix(line[token.At-1:], spelling) {
				t.Fatalf("%q: %+v, %d", line, token, e)
			}
		}
	}
}

// P1

func TestResultsAreNewMemory(t *testing.T) {
	first, _ := Scan("a b c")
	second, _ := Scan("a b c")
	first.Tokens[1] = numberAt(0, 5)
	if want := scanned(0, false, "", wordAt(1, "a"), wordAt(3, "b"), wordAt(5, "c")); !same(second, want) {
		t.Errorf("%+v", second)
	}
	lines, _ := Lines("a\nb")
	lines[0] = "c"
	if again, _ := Lines("a\nb"); again[0] != "a" {
		t.Errorf("%q", again)
	}
}
