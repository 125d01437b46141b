package codec

import (
	"cmp"
	"math"
	"math/rand"
	"reflect"
	"slices"
	"strings"
	"testing"

	"gangsaw/api"
)

// nested returns a value inside so many lists.
func nested(depth int, inner Value) Value {
	for range depth {
		inner = Value{Kind: List, Items: []Value{inner}}
	}
	return inner
}

// examples are possible values and their encodings, written out by hand.
var examples = []struct {
	value    Value
	encoding string
}{
	{Num(0), "n\x00"},
	{Num(1), "n\x02"},
	{Num(-1), "n\x01"},
	{Num(2), "n\x04"},
	{Num(-2), "n\x03"},
	{Num(63), "n\x7e"},
	{Num(-64), "n\x7f"},
	{Num(64), "n\x80\x01"},
	{Num(-65), "n\x81\x01"},
	{Num(8191), "n\xfe\x7f"},
	{Num(-8192), "n\xff\x7f"},
	{Num(8192), "n\x80\x80\x01"},
	{Num(math.MaxInt64), "n\xfe\xff\xff\xff\xff\xff\xff\xff\xff\x01"},
	{Num(math.MinInt64), "n\xff\xff\xff\xff\xff\xff\xff\xff\xff\x01"},
	{Num(1 << 62), "n\x80\x80\x80\x80\x80\x80\x80\x80\x80\x01"},
	{Num(-1 << 62), "n\xff\xff\xff\xff\xff\xff\xff\xff\x7f"},
	{Str(""), "t\x00"},
	{Str("ab"), "t\x02ab"},
	{Str("\x00\xff\n"), "t\x03\x00\xff\n"},
	{Str(strings.Repeat("x", 127)), "t\x7f" + strings.Repeat("x", 127)},
	{Str(strings.Repeat("x", 128)), "t\x80\x01" + strings.Repeat("x", 128)},
	{Seq(), "l\x00"},
	{Seq(Num(1), Str("ab")), "l\x02n\x02t\x02ab"},
	{Seq(Seq(), Seq(Seq(Num(-1))), Str("l")), "l\x03l\x00l\x01l\x01n\x01t\x01l"},
	{Seq(slices.Repeat([]Value{Num(0)}, 300)...), "l\xac\x02" + strings.Repeat("n\x00", 300)},
	{nested(MaxDepth, Num(7)), strings.Repeat("l\x01", MaxDepth) + "n\x0e"},
	{nested(MaxDepth-1, Seq()), strings.Repeat("l\x01", MaxDepth-1) + "l\x00"},
}

// impossible are values with a wrong kind, or with a field that their kind does not use.
var impossible = []Value{
	{},
	{Kind: 4},
	{Kind: -1},
	{Kind: math.MinInt},
	{N: 3},
	{Kind: Number, S: "x"},
	{Kind: Number, Items: []Value{Num(0)}},
	{Kind: Text, N: 1},
	{Kind: Text, S: "x", N: -1},
	{Kind: Text, Items: []Value{Num(0)}},
	{Kind: List, N: 1},
	{Kind: List, S: "x"},
	{Kind: List, Items: []Value{{}}},
	{Kind: List, Items: []Value{Num(1), Seq(Str("a"), Value{Kind: Number, S: "a"})}},
	{Kind: List, Items: []Value{{Kind: 4}, Num(1)}},
}

// misspelt are strings that do not begin with an encoding.
var misspelt = []string{
	"", "n", "t", "l", "x", "x\x00", "N\x00", "\x00", "n\x80", "n\xff\xff",
	"n\x80\x00", "n\xff\x80\x00", "t\x80\x00", "l\x80\x00", "t\x81\x00a", "l\x81\x00n\x00",
	"t\x03ab", "t\x01", "l\x01", "l\x02n\x00", "l\x01n", "l\x01x\x00", "l\x02n\x00n", "l\x01l\x01l\x01", "l\x02t\x03ab",
	"n\xff\xff\xff\xff\xff\xff\xff\xff\xff\x02",
	"n\xff\xff\xff\xff\xff\xff\xff\xff\xff\x03",
	"n\xff\xff\xff\xff\xff\xff\xff\xff\xff\x7f",
	"n\xff\xff\xff\xff\xff\xff\xff\xff\xff\x81\x01",
	"n\x80\x80\x80\x80\x80\x80\x80\x80\x80\x80\x01",
	"n\x80\x80\x80\x80\x80\x80\x80\x80\x80\x02",
	"n\x80\x80\x80\x80\x80\x80\x80\x80\x80\x00",
	"t\xff\xff\xff\xff\xff\xff\xff\xff\xff\x01a",
	"t\x80\x80\x80\x80\x80\x80\x80\x80\x80\x01",
	"t\xff\xff\xff\xff\xff\xff\xff\xff\x7fa",
	"t\x80\x80\x80\x80\x80\x80\x80\x80\x80\x02",
	"t\x81\x80\x80\x80\x80\x80\x80\x80\x80\x02a",
	"l\xff\xff\xff\xff\xff\xff\xff\xff\xff\x01n\x00",
	"l\x80\x80\x80\x80\x80\x80\x80\x80\x80\x01n\x00",
	strings.Repeat("l\x01", MaxDepth) + "l\x00",
	strings.Repeat("l\x01", MaxDepth+1) + "n\x00",
	strings.Repeat("l\x01", MaxBytes/2),
	"l\x02" + strings.Repeat("l\x01", MaxDepth) + "n\x00" + strings.Repeat("l\x01", MaxDepth-1) + "n\x00",
}

func TestConstants(t *testing.T) {
	if Number != 1 || Text != 2 || List != 3 || MaxDepth != 16 || MaxBytes != 1_000_000 {
		t.Error(Number, Text, List, MaxDepth, MaxBytes)
	}
}

// P2.1

func TestMakers(t *testing.T) {
	for _, c := range []struct {
		got, want Value
	}{
		{Num(-7), Value{Kind: Number, N: -7}},
		{Num(0), Value{Kind: Number}},
		{Str("ab"), Value{Kind: Text, S: "ab"}},
		{Str(""), Value{Kind: Text}},
		{Seq(), Value{Kind: List}},
		{Seq(Num(1), Str("ab")), Value{Kind: List, Items: []Value{{Kind: Number, N: 1}, {Kind: Text, S: "ab"}}}},
		{Seq(Seq(Num(1)), Value{Kind: 9, N: 1, S: "s"}), Value{Kind: List, Items: []Value{{Kind: List, Items: []Value{{Kind: Number, N: 1}}}, {Kind: 9, N: 1, S: "s"}}}},
	} {
		if !reflect.DeepEqual(c.got, c.want) {
			t.Errorf("%v; want %v", c.got, c.want)
		}
	}
}

func TestSeqSharesNothing(t *testing.T) {
	inner := []Value{Num(1)}
	items := []Value{{Kind: List, Items: inner}, {Kind: List, Items: inner}}
	list := Seq(items...)
	want := Seq(Seq(Num(1)), Seq(Num(1)))
	inner[0] = Num(2)
	items[1] = Num(3)
	if !Equal(list, want) {
		t.Errorf("the list changes with its arguments: %v", list)
	}
	list.Items[0].Items[0] = Num(4)
	if inner[0].N != 2 || list.Items[1].Items[0].N != 1 {
		t.Errorf("the items of a list share memory: %v", list)
	}
}

func TestEncode(t *testing.T) {
	for _, c := range examples {
		if e := Check(c.value); e != api.OK {
			t.Errorf("Check of %v: %d", c.value, e)
		}
		if s, e := Encode(c.value); s != c.encoding || e != api.OK {
			t.Errorf("Encode of %v: %q, %d; want %q", c.value, s, e, c.encoding)
		}
	}
}

// Empty lists of items are the same as none.
func TestEmptyItemsArePossible(t *testing.T) {
	for _, v := range []Value{{Kind: Number, Items: []Value{}}, {Kind: Text, Items: []Value{}}, {Kind: List, Items: []Value{}}} {
		bare := Value{Kind: v.Kind}
		s, e := Encode(v)
		want, _ := Encode(bare)
		if Check(v) != api.OK || e != api.OK || s != want || !Equal(v, bare) || Compare(v, bare) != 0 {
			t.Errorf("%v: %q, %d", v, s, e)
		}
	}
}

func wantNoEncoding(t *testing.T, v Value, want api.Errno) {
	t.Helper()
	if e := Check(v); e != want {
		t.Errorf("Check: %d; want %d", e, want)
	}
	if s, e := Encode(v); s != "" || e != want {
		t.Errorf("Encode: %d bytes, %d; want %d", len(s), e, want)
	}
}

func TestImpossibleValues(t *testing.T) {
	for _, v := range impossible {
		wantNoEncoding(t, v, api.ErrInvalid)
		wantNoEncoding(t, Seq(Num(1), v, Num(2)), api.ErrInvalid)
	}
}

func TestDepthOfValues(t *testing.T) {
	for _, c := range []struct {
		v    Value
		want api.Errno
	}{
		{nested(MaxDepth, Str("a")), api.OK},
		{nested(MaxDepth, Seq()), api.ErrTooMany},
		{nested(MaxDepth+1, Str("a")), api.ErrTooMany},
		{Seq(Num(1), nested(MaxDepth, Num(1))), api.ErrTooMany},
		{Seq(nested(MaxDepth-1, Num(1)), nested(MaxDepth-1, Num(2))), api.OK},
		{nested(1<<16, Num(1)), api.ErrTooMany},
		{nested(1<<16, Value{}), api.ErrInvalid},
		{nested(MaxDepth+1, Value{Kind: Text, N: 1}), api.ErrInvalid},
		{Seq(nested(MaxDepth+1, Num(1)), Value{}), api.ErrInvalid},
	} {
		if c.want != api.OK {
			wantNoEncoding(t, c.v, c.want)
		} else if s, e := Encode(c.v); s == "" || e != api.OK || Check(c.v) != api.OK {
			t.Errorf("Encode: %q, %d", s, e)
		}
	}
}

func TestBytesOfValues(t *testing.T) {
	full := strings.Repeat("x", MaxBytes-4) // the mark and a count of three bytes come before it
	numbers := slices.Repeat([]Value{Num(0)}, MaxBytes/2-2)
	for _, c := range []struct {
		v    Value
		want api.Errno
	}{
		{Str(full), api.OK},
		{Str(full + "x"), api.ErrTooMany},
		{Seq(Str(full)), api.ErrTooMany},
		{Seq(Str(full[2:])), api.OK},
		{Seq(numbers...), api.OK},
		{Seq(append(numbers, Num(64))...), api.ErrTooMany},
		{Seq(append(numbers[1:], Num(64))...), api.ErrTooMany},
		{Seq(append(numbers[2:], Num(64))...), api.OK},
		{Seq(Str(full), Str(full), Value{}), api.ErrInvalid},
	} {
		if c.want != api.OK {
			wantNoEncoding(t, c.v, c.want)
			continue
		}
		s, e := Encode(c.v)
		if e != api.OK || len(s) > MaxBytes || Check(c.v) != api.OK {
			t.Fatalf("Encode: %d bytes, %d", len(s), e)
		}
		if v, e := Decode(s); e != api.OK || !Equal(v, c.v) {
			t.Errorf("Decode of %d bytes: %d", len(s), e)
		}
	}
}

// P2.2

func TestDecode(t *testing.T) {
	for _, c := range examples {
		v, e := Decode(c.encoding)
		if e != api.OK || !reflect.DeepEqual(v, c.value) {
			t.Errorf("Decode of %q: %v, %d; want %v", c.encoding, v, e, c.value)
		}
		for _, rest := range []string{"", "\x00", "n", "n\x00", "\xff"} {
			v, length, e := First(c.encoding + rest)
			if e != api.OK || length != len(c.encoding) || !reflect.DeepEqual(v, c.value) {
				t.Errorf("First of %q: %v, %d, %d", c.encoding+rest, v, length, e)
			}
			if rest != "" {
				wantNoValue(t, c.encoding+rest, api.ErrSyntax)
			}
		}
		for cut := range c.encoding {
			wantNoFirst(t, c.encoding[:cut], api.ErrSyntax)
			wantNoValue(t, c.encoding[:cut], api.ErrSyntax)
		}
	}
}

func wantNoValue(t *testing.T, s string, want api.Errno) {
	t.Helper()
	if v, e := Decode(s); !reflect.DeepEqual(v, Value{}) || e != want {
		t.Errorf("Decode of %.40q: %v, %d; want %d", s, v.Kind, e, want)
	}
}

func wantNoFirst(t *testing.T, s string, want api.Errno) {
	t.Helper()
	if v, length, e := First(s); !reflect.DeepEqual(v, Value{}) || length != 0 || e != want {
		t.Errorf("First of %.40q: %v, %d, %d; want %d", s, v.Kind, length, e, want)
	}
}

func TestMisspeltEncodings(t *testing.T) {
	for _, s := range misspelt {
		wantNoValue(t, s, api.ErrSyntax)
		wantNoFirst(t, s, api.ErrSyntax)
	}
}

func TestLongStrings(t *testing.T) {
	limit := "n\x00" + strings.Repeat("x", MaxBytes-2)
	if v, length, e := First(limit); !Equal(v, Num(0)) || length != 2 || e != api.OK {
		t.Error("First of the longest string", v, length, e)
	}
	wantNoValue(t, limit, api.ErrSyntax)
	wantNoFirst(t, limit[1:]+"x", api.ErrSyntax)
	for _, s := range []string{limit + "x", limit[1:] + "xx", "t\xbd\x84\x3d" + strings.Repeat("x", MaxBytes-3)} {
		wantNoValue(t, s, api.ErrTooMany)
		wantNoFirst(t, s, api.ErrTooMany)
	}
}

func TestDecodedListsShareNothing(t *testing.T) {
	v, _ := Decode("l\x02l\x01n\x02l\x01n\x02")
	v.Items[0].Items[0] = Num(9)
	v.Items[0].Items = append(v.Items[0].Items, Num(8))
	if !Equal(v.Items[1], Seq(Num(1))) {
		t.Error(v)
	}
}

// P2.3

// ordered are values in their order, impossible ones among them.
var ordered = []Value{
	{Kind: math.MinInt, N: 5},
	{Kind: -1},
	{N: -1, S: "z"},
	{},
	{Items: []Value{{}}},
	Num(math.MinInt64), Num(-5), Num(-1), Num(0),
	{Kind: Number, Items: []Value{Num(5)}},
	{Kind: Number, S: "a"},
	Num(1), Num(3), Num(math.MaxInt64),
	{Kind: Text, N: -1, S: "z"},
	Str(""), Str("\x00"), Str("A"), Str("a"),
	{Kind: Text, S: "a", Items: []Value{{}}},
	Str("a\x00"), Str("aa"), Str("ab"), Str("b"), Str("\x7f"), Str("\x80"), Str("\u00e9"), Str("\u20ac"), Str("\xff"),
	{Kind: Text, N: 1},
	Seq(),
	Seq(Value{}),
	Seq(Num(1)), Seq(Num(1), Num(-1)), Seq(Num(1), Num(0)), Seq(Num(1), Num(0), Num(0)), Seq(Num(1), Str("")), Seq(Num(2)),
	Seq(Str("")), Seq(Seq()), Seq(Seq(), Num(0)), Seq(Seq(Num(0))),
	{Kind: List, S: "a"},
	{Kind: List, N: 1},
	{Kind: 4, N: -9},
	{Kind: math.MaxInt},
}

func TestCompareAndEqual(t *testing.T) {
	for i, a := range ordered {
		for k, b := range ordered {
			if c := Compare(a, b); c != cmp.Compare(i, k) {
				t.Errorf("Compare of %v and %v: %d", a, b, c)
			}
			if Equal(a, b) != (i == k) {
				t.Errorf("Equal of %v and %v is not %v", a, b, i == k)
			}
		}
	}
}

func TestCompareOfDeepValues(t *testing.T) {
	a, b := nested(1<<16, Num(1)), nested(1<<16, Num(2))
	if Compare(a, b) != -1 || Compare(b, a) != 1 || Compare(a, a) != 0 || Equal(a, b) || !Equal(b, b) {
		t.Error("Compare of deep values")
	}
}

// P2.4

func TestDigest(t *testing.T) {
	var all []byte
	for b := range 256 {
		all = append(all, byte(b))
	}
	for s, want := range map[string]string{
		"":                               "9e3779b9e17d05ac",
		"a":                              "1a07cb73f84c7e25",
		"b":                              "1ab61b9bee403312",
		"ab":                             "d2b8a458460e5fbb",
		"ba":                             "da9ec4a1d9d6845d",
		"\x00":                           "038f764979ddad8a",
		"\x00\x00":                       "5c5debb9cd78cbf4",
		"n\x02":                          "5d7ee052521fb7e5",
		"196260":                         "0000d201b638cfc0",
		"Stein\u00df":                    "323328447304a942",
		"\xff\xff\xff":                   "41893fa7252f7b80",
		string(all):                      "170c557670b46ece",
		strings.Repeat("gangsaw", 1_000): "6adfd57d286be98f",
	} {
		if d := Digest(s); d != want {
			t.Errorf("Digest of %.20q: %q; want %q", s, d, want)
		}
	}
}

// P2.5

// randomValue returns a possible value.
func randomValue(r *rand.Rand, depth int) Value {
	switch kind := r.Intn(4); {
	case kind == 0:
		return Num(int64(r.Uint64()) >> r.Intn(64))
	case kind == 1 || depth == 0:
		text := make([]byte, r.Intn(4))
		r.Read(text)
		return Str(string(text))
	}
	var items []Value
	for range r.Intn(4) {
		items = append(items, randomValue(r, depth-1))
	}
	return Seq(items...)
}

func TestEncodingsOfRandomValues(t *testing.T) {
	r := rand.New(rand.NewSource(4))
	seen := map[string]Value{}
	for range 5000 {
		v := randomValue(r, 4)
		s, e := Encode(v)
		if e != api.OK {
			t.Fatalf("Encode of %v: %d", v, e)
		}
		if w, e := Decode(s); e != api.OK || !Equal(v, w) || !reflect.DeepEqual(v, w) {
			t.Fatalf("Decode of %q: %v, %d", s, w, e)
		}
		if w, ok := seen[s]; ok && !Equal(v, w) {
			t.Fatalf("%v and %v have one encoding", v, w)
		}
		seen[s] = v
	}
}

// Every string of at most 5 of these bytes is the encoding of what it is decoded to, or of nothing; and no encoding is the beginning of another one.
func TestEncodingsOfShortStrings(t *testing.T) {
	letters := "ntl\x00\x01\x02\x80\x81\xff"
	encodings := 0
	var visit func(s string, inside bool)
	visit = func(s string, inside bool) {
		v, e := Decode(s)
		again, e2 := Encode(v)
		switch {
		case e == api.OK && (inside || e2 != api.OK || again != s):
			t.Fatalf("Decode of %q: %v, %q", s, v, again)
		case e != api.OK && e != api.ErrSyntax:
			t.Fatalf("Decode of %q: %d", s, e)
		case e == api.OK:
			encodings++
		}
		if first, length, e := First(s); inside && (e != api.OK || length >= len(s)) || e == api.OK && !encodes(first, s[:length]) {
			t.Fatalf("First of %q: %v, %d, %d", s, first, length, e)
		}
		if len(s) == 5 {
			return
		}
		for i := range len(letters) {
			visit(s+letters[i:i+1], inside || e == api.OK)
		}
	}
	visit("", false)
	if encodings < 100 {
		t.Error(encodings)
	}
}

func encodes(v Value, s string) bool {
	encoding, e := Encode(v)
	return e == api.OK && encoding == s
}

func TestOrderIsTotal(t *testing.T) {
	r := rand.New(rand.NewSource(5))
	var list []Value
	for range 80 {
		list = append(list, randomValue(r, 2))
	}
	for _, a := range list {
		for _, b := range list {
			if Compare(a, b) != -Compare(b, a) || (Compare(a, b) == 0) != reflect.DeepEqual(a, b) || Equal(a, b) != reflect.DeepEqual(a, b) {
				t.Fatalf("Compare of %v and %v", a, b)
			}
			for _, c := range list {
				if Compare(a, b) <= 0 && Compare(b, c) <= 0 && Compare(a, c) > 0 {
					t.Fatalf("Compare of %v, %v and %v", a, b, c)
				}
			}
		}
	}
}

func TestDigestsOfStringsThatDifferInOneByte(t *testing.T) {
	for at := range 20 {
		seen := map[string]bool{}
		for b := range 256 {
			text := []byte("twenty bytes of text")
			text[at] = byte(b)
			seen[Digest(string(text))] = true
		}
		if len(seen) != 256 {
			t.Errorf("%d digests for the byte %d", len(seen), at)
		}
	}
}

// Arguments stay as they are (Rules).
func TestArgumentsAreKept(t *testing.T) {
	v := Seq(Num(5), Seq(Str("b"), Str("a")), Num(3))
	kept := Seq(Num(5), Seq(Str("b"), Str("a")), Num(3))
	Check(v)
	Encode(v)
	Compare(v, kept)
	Equal(v, kept)
	Seq(v.Items...)
	if !reflect.DeepEqual(v, kept) {
		t.Error(v)
	}
}
