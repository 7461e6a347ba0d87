// Package lex is layer 1: a grammar's text as tokens (see shared/doc/01-lex.md).
package lex

import (
	"strings"

	"topiarist/api"
)

const quoteSign = '\''

// Tokens tells all tokens of s in order, or the fault of the first thing in s that is none.
func Tokens(s string) (l []api.Token, f api.Fault) {
	if len(s) > api.MaxText {
		return nil, api.Fault{E: api.ErrLarge}
	}
	defer func() {
		if thrown := recover(); thrown != nil {
			l, f = nil, faultOf(thrown)
		}
	}()
	return scan(s), api.Fault{}
}

// IsName tells whether s is a name.
func IsName(s string) bool {
	if len(s) == 0 || len(s) > api.MaxName || !isLetter(s[0]) {
		return false
	}
	return nameEnd(s, 0) == len(s)
}

// IsTerm tells whether s may stand in a quote.
func IsTerm(s string) bool {
	if len(s) == 0 || len(s) > api.MaxName {
		return false
	}
	for i := range len(s) {
		if s[i] < ' ' || s[i] > '~' || s[i] == quoteSign {
			return false
		}
	}
	return true
}

// throw gives up the whole text: no token begins at that byte.
func throw(at int) {
	panic(api.Fault{E: api.ErrLex, At: at})
}

// faultOf is the fault that was thrown. Anything else is a mistake of the program's own, and must not pass for one of the text's.
func faultOf(thrown any) api.Fault {
	f, ok := thrown.(api.Fault)
	if !ok {
		panic(thrown)
	}
	return f
}

func scan(s string) []api.Token {
	var l []api.Token
	at := gapEnd(s, 0)
	for at < len(s) {
		t, end := token(s, at)
		l = append(l, t)
		at = gapEnd(s, end)
	}
	return l
}

// gapEnd is where the blanks, tabs, newlines and notes from at on are over.
func gapEnd(s string, at int) int {
	for at < len(s) {
		switch s[at] {
		case ' ', '\t', '\n':
			at++
		case '#':
			at = noteEnd(s, at)
		default:
			return at
		}
	}
	return at
}

func noteEnd(s string, at int) int {
	n := strings.IndexByte(s[at:], '\n')
	if n < 0 {
		return len(s)
	}
	return at + n
}

// token is the one that begins at that byte, and the byte behind it.
func token(s string, at int) (api.Token, int) {
	switch c := s[at]; {
	case c == '=':
		return api.Token{Kind: api.Is, Text: "=", At: at}, at + 1
	case c == '|':
		return api.Token{Kind: api.Bar, Text: "|", At: at}, at + 1
	case c == ';':
		return api.Token{Kind: api.End, Text: ";", At: at}, at + 1
	case c == quoteSign:
		return quote(s, at)
	}
	// A byte that begins no name begins no token either: name throws it.
	return name(s, at)
}

func name(s string, at int) (api.Token, int) {
	end := nameEnd(s, at)
	if !IsName(s[at:end]) {
		throw(at)
	}
	// A clone, so that a token does not keep the whole text.
	return api.Token{Kind: api.Name, Text: strings.Clone(s[at:end]), At: at}, end
}

func quote(s string, at int) (api.Token, int) {
	begin := at + 1
	n := strings.IndexByte(s[begin:], quoteSign)
	if n < 0 || !IsTerm(s[begin:begin+n]) {
		throw(at)
	}
	return api.Token{Kind: api.Quote, Text: strings.Clone(s[begin : begin+n]), At: at}, begin + n + 1
}

// nameEnd is where the bytes that may stand in a name are over.
func nameEnd(s string, at int) int {
	for at < len(s) && (isLetter(s[at]) || isDigit(s[at]) || s[at] == '_') {
		at++
	}
	return at
}

func isLetter(c byte) bool {
	return 'a' <= c && c <= 'z' || 'A' <= c && c <= 'Z'
}

func isDigit(c byte) bool {
	return '0' <= c && c <= '9'
}
