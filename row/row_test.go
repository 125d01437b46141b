package row

import (
	"math"
	"reflect"
	"testing"

	"gangsaw/api"
)

func TestTokens(t *testing.T) {
	if got := Word("bed"); got != (api.Token{Kind: api.TokWord, Text: "bed"}) {
		t.Errorf("Word: %+v", got)
	}
	for _, n := range []int{0, 7, -120, math.MaxInt, math.MinInt} {
		if got := Number(n); got != (api.Token{Kind: api.TokNumber, N: int64(n)}) {
			t.Errorf("Number of %d: %+v", n, got)
		}
	}
}

func TestLines(t *testing.T) {
	tokens := []api.Token{{Kind: api.TokWord, Text: "bed"}, {Kind: api.TokWord, Text: "a"}, {Kind: api.TokNumber, N: 5}}
	if got := Of("bed", Word("a"), Number(5)); !reflect.DeepEqual(got, api.Line{Tokens: tokens}) {
		t.Errorf("Of: %+v", got)
	}
	if got := Heading("bed", Word("a"), Number(5)); !reflect.DeepEqual(got, api.Line{Tokens: tokens, Heading: true}) {
		t.Errorf("Heading: %+v", got)
	}
	if got := Of("bed"); !reflect.DeepEqual(got, api.Line{Tokens: tokens[:1]}) {
		t.Errorf("Of a word: %+v", got)
	}
}

func TestLinesShareNoMemory(t *testing.T) {
	others := []api.Token{Word("a"), Number(5)}
	first, second := Of("bed", others...), Heading("bed", others...)
	first.Tokens[1].Text, second.Tokens[2].N = "x", 9
	if others[0] != Word("a") || others[1] != Number(5) || second.Tokens[1] != Word("a") || first.Tokens[2] != Number(5) {
		t.Errorf("%+v, %+v, %+v", others, first, second)
	}
}
