package parser

import (
	"gangsaw/api"
	"gangsaw/lexer"
)

// anyKind stands for all kinds of tokens.
const anyKind = 0

// Shape returns the fault of a line that does not have the form of a pattern of words and kinds of tokens.
func Shape(l api.Line, pattern []string) api.Fault {
	kinds := kindsOfForms()
	least, last := len(pattern), len(pattern)-1
	form, mark := "", ' '
	if last >= 0 {
		form, mark = divided(pattern[last])
	}
	if mark == '*' {
		least--
	}
	for i, t := range l.Tokens {
		want := form
		switch {
		case i < last:
			want = pattern[i]
		case i > last && mark == ' ':
			return Bad(api.ErrSyntax, l, i)
		}
		if e := fit(t, want, kinds); e != api.OK {
			return Bad(e, l, i)
		}
	}
	if len(l.Tokens) < least {
		return Bad(api.ErrSyntax, l, len(l.Tokens))
	}
	return api.Fault{}
}

// kindsOfForms returns the words of patterns that stand for all tokens of a kind.
func kindsOfForms() map[string]int {
	return map[string]int{
		"WORD":   api.TokWord,
		"NAME":   api.TokWord,
		"NUMBER": api.TokNumber,
		"TEXT":   api.TokText,
		"ANY":    anyKind,
	}
}

// divided returns the form of the last string of a pattern and the mark behind it, or a blank if there is none.
func divided(s string) (form string, mark rune) {
	for i, r := range s {
		if i > 0 && i == len(s)-1 && (r == '*' || r == '+') {
			return s[:i], r
		}
	}
	return s, ' '
}

// fit returns the error of a token that does not have a form.
func fit(t api.Token, form string, kinds map[string]int) api.Errno {
	kind, known := kinds[form]
	if !known {
		if t.Text != form || t.Kind != api.TokWord && t.Kind != api.TokSign {
			return api.ErrSyntax
		}
		return api.OK
	}
	if kind != anyKind && kind != t.Kind {
		return api.ErrSyntax
	}
	if form == "NAME" && !lexer.Name(t.Text) {
		return api.ErrName
	}
	return api.OK
}
