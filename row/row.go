// Package row makes canonical lines and their tokens, all of whose numbers of lines and columns are 0.
package row

import "gangsaw/api"

// Word returns the token of a word.
func Word(text string) api.Token { return api.Token{Kind: api.TokWord, Text: text} }

// Number returns the token of a number.
func Number(n int) api.Token { return api.Token{Kind: api.TokNumber, N: int64(n)} }

// Of returns the line that begins with a word and has some further tokens.
func Of(word string, others ...api.Token) api.Line {
	return api.Line{Tokens: append([]api.Token{Word(word)}, others...)}
}

// Heading returns the heading that begins with a word and has some further tokens. Its kids are to be set.
func Heading(word string, others ...api.Token) api.Line {
	l := Of(word, others...)
	l.Heading = true
	return l
}
