// Package codec is layer 2: a canonical encoding of trees of numbers and texts, and a digest. See shared/doc/02-codec.md.
package codec

import (
	"cmp"
	"math/bits"
	"slices"
	"strconv"
	"strings"

	"gangsaw/api"
)

// The kinds of values.
const (
	Number = 1
	Text   = 2
	List   = 3
)

// Limits of values.
const (
	MaxDepth = 16
	MaxBytes = 1000000 // bytes of an encoding
)

// The bytes with which encodings begin.
const (
	numberMark = 'n'
	textMark   = 't'
	listMark   = 'l'
)

// The numbers and the length of a digest.
const (
	digestStart  = 11400714819323198485
	digestFactor = 18397679294719823053
	digestTurn   = 7
	digestDigits = 16
)

// Value is a number (N), a text (S), or a list of values (Items).
type Value struct {
	Kind  int
	N     int64
	S     string
	Items []Value
}

// Num returns the value of a number.
func Num(n int64) Value { return Value{Kind: Number, N: n} }

// Str returns the value of a text.
func Str(s string) Value { return Value{Kind: Text, S: s} }

// Seq returns the value of a list.
func Seq(items ...Value) Value { return Value{Kind: List, Items: copied(items)} }

// Check returns OK for a value that can be encoded, or the first error.
func Check(v Value) api.Errno {
	if !possible(v) {
		return api.ErrInvalid
	}
	if !fits(v) {
		return api.ErrTooMany
	}
	return api.OK
}

// Encode returns the encoding of a value.
func Encode(v Value) (string, api.Errno) {
	if e := Check(v); e != api.OK {
		return "", e
	}
	var out []byte
	var write func(v Value)
	write = func(v Value) {
		mark, count := head(v)
		out = append(out, mark)
		out = appendCount(out, count)
		out = append(out, v.S...)
		for _, item := range v.Items {
			write(item)
		}
	}
	write(v)
	return string(out), api.OK
}

// Decode returns the value of an encoding.
func Decode(s string) (Value, api.Errno) {
	v, length, e := First(s)
	if e != api.OK {
		return Value{}, e
	}
	if length < len(s) {
		return Value{}, api.ErrSyntax
	}
	return v, api.OK
}

// First returns the value with whose encoding a string begins, and the length of this encoding.
func First(s string) (Value, int, api.Errno) {
	if len(s) > MaxBytes {
		return Value{}, 0, api.ErrTooMany
	}
	r := reader{text: s}
	v, ok := r.value(MaxDepth)
	if !ok {
		return Value{}, 0, api.ErrSyntax
	}
	return v, r.at, api.OK
}

// Equal reports whether two values are the same.
func Equal(a, b Value) bool { return Compare(a, b) == 0 }

// Compare compares two values: numbers before texts before lists, then by what they contain.
func Compare(a, b Value) int {
	c := cmp.Or(cmp.Compare(a.Kind, b.Kind), cmp.Compare(a.N, b.N), cmp.Compare(a.S, b.S))
	if c != 0 {
		return c
	}
	return slices.CompareFunc(a.Items, b.Items, Compare)
}

// Digest returns the digest of a string: 16 hexadecimal digits.
func Digest(s string) string {
	h := uint64(digestStart)
	for i := range len(s) {
		h = (bits.RotateLeft64(h, digestTurn) ^ uint64(s[i])) * digestFactor
	}
	h ^= h >> 32
	digits := strconv.FormatUint(h, 16)
	return strings.Repeat("0", digestDigits-len(digits)) + digits
}

// copied copies items with all that is below them: a list must not change with the arguments it was made of.
func copied(items []Value) []Value {
	var out []Value
	for _, item := range items {
		item.Items = copied(item.Items)
		out = append(out, item)
	}
	return out
}

func possible(v Value) bool {
	switch v.Kind {
	case Number:
		return v.S == "" && len(v.Items) == 0
	case Text:
		return v.N == 0 && len(v.Items) == 0
	case List:
		impossible := func(item Value) bool { return !possible(item) }
		return v.N == 0 && v.S == "" && !slices.ContainsFunc(v.Items, impossible)
	}
	return false
}

// fits reports whether a possible value keeps to the limits of depth and of bytes.
func fits(v Value) bool {
	room := MaxBytes
	var take func(v Value, depth int) bool
	take = func(v Value, depth int) bool {
		if v.Kind == List && depth == 0 {
			return false
		}
		_, count := head(v)
		room -= 1 + countLength(count) + len(v.S)
		if room < 0 {
			return false
		}
		for _, item := range v.Items {
			if !take(item, depth-1) {
				return false
			}
		}
		return true
	}
	return take(v, MaxDepth)
}

// head returns the mark and the count with which the encoding of a possible value begins.
func head(v Value) (mark byte, count uint64) {
	switch v.Kind {
	case Number:
		return numberMark, fold(v.N)
	case Text:
		return textMark, uint64(len(v.S))
	}
	return listMark, uint64(len(v.Items))
}

// fold returns 2n, or -2n - 1 if n is negative: the complement of 2n, which has no overflow.
func fold(n int64) uint64 {
	if n < 0 {
		return ^(uint64(n) << 1)
	}
	return uint64(n) << 1
}

func unfold(count uint64) int64 {
	n := int64(count >> 1)
	if count&1 == 1 {
		return ^n
	}
	return n
}

func countLength(count uint64) int { return max(1, (bits.Len64(count)+6)/7) }

func appendCount(out []byte, count uint64) []byte {
	for count > 127 {
		out = append(out, byte(count&127)+128)
		count >>= 7
	}
	return append(out, byte(count))
}
