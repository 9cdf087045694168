package lex

import (
	"regexp"
	"slices"
	"strings"
	"testing"

	"tachograph/api"
	"tachograph/quote"
)

// latin is a text with a sign for each byte, since a pattern goes by signs.
func latin(s string) string {
	r := make([]rune, len(s))
	for i := range len(s) {
		r[i] = rune(s[i])
	}
	return string(r)
}

// The chapter's words on tokens and numbers, as patterns; the groups of tokenPattern are the kinds, in their order, and a quote is told by its first byte alone.
var (
	tokenPattern    = regexp.MustCompile(`^(?:(@)|(\()|(\))|(,)|([A-Za-z_][A-Za-z0-9_]*)|(-?[0-9]+)|("))`)
	blankPattern    = regexp.MustCompile(`^[ \t\n\r]+`)
	signedPattern   = regexp.MustCompile(`^-?[0-9]+$`)
	unsignedPattern = regexp.MustCompile(`^[0-9]+$`)
)

// placeOf is the place of a text's byte, or behind its last one, counted anew.
func placeOf(text string, at int) api.Place {
	front := text[:at]
	return api.Place{Line: 1 + strings.Count(front, "\n"), Column: at - strings.LastIndex(front, "\n")}
}

// tokenAt is the token that a text begins with, without a place, and how many bytes it has, by the pattern.
func tokenAt(text string) (Token, int, api.Errno) {
	m := tokenPattern.FindStringSubmatch(latin(text))
	for kind := 1; kind < len(m); kind++ {
		switch {
		case m[kind] == "":
		case kind == 7:
			s, size, e := quote.Get(text)
			return Token{Kind: 7, Text: s}, size, e
		default:
			return Token{Kind: kind, Text: m[kind]}, len(m[kind]), api.OK
		}
	}
	return Token{}, 0, api.ErrForm
}

// answer is what the chapter says of Lex, by the patterns.
func answer(text string) ([]Token, api.Errno, api.Place) {
	var l []Token
	for at := 0; at < len(text); {
		if blanks := blankPattern.FindString(text[at:]); blanks != "" {
			at += len(blanks)
			continue
		}
		t, size, e := tokenAt(text[at:])
		if e != api.OK {
			return nil, e, placeOf(text, at)
		}
		t.Place = placeOf(text, at)
		l, at = append(l, t), at+size
	}
	return l, api.OK, api.Place{}
}

// brief is a text's front, if it is long.
func brief(text string) string {
	if len(text) > 80 {
		return text[:80] + ".."
	}
	return text
}

// same says where two lists of tokens are not the same.
func same(t *testing.T, text string, got, want []Token) {
	t.Helper()
	if !slices.Equal(got, want) {
		t.Errorf("%q: %v, not %v", brief(text), got, want)
	}
}

// check holds what Lex answers against the patterns, twice, with the first answer written over between.
func check(t *testing.T, text string) {
	t.Helper()
	want, wantE, wantP := answer(text)
	for range 2 {
		l, e, p := Lex(text)
		if e != wantE || p != wantP {
			t.Errorf("%q: error %d at %v, not %d at %v", brief(text), e, p, wantE, wantP)
		}
		same(t, text, l, want)
		for i := range l[:cap(l)] {
			l[:cap(l)][i] = Token{Kind: -1, Text: "written over"}
		}
	}
}

// tokens are those of a text that has to have no error.
func tokens(t *testing.T, text string) []Token {
	t.Helper()
	check(t, text)
	l, e, p := Lex(text)
	if e != api.OK || p != (api.Place{}) {
		t.Errorf("%q: error %d at %v", brief(text), e, p)
	}
	return l
}

// refused asks whether a text has an error at a place, and no tokens.
func refused(t *testing.T, text string, want api.Errno, line, column int) {
	t.Helper()
	check(t, text)
	l, e, p := Lex(text)
	if len(l) != 0 || e != want || p != (api.Place{Line: line, Column: column}) {
		t.Errorf("%q: %v, error %d at %v, not %d at %d, %d", brief(text), l, e, p, want, line, column)
	}
}

// at is a place.
func at(line, column int) api.Place { return api.Place{Line: line, Column: column} }

// The bytes that stand between tokens.
var blanks = []string{" ", "\t", "\n", "\r"}

// sample is a token as it is written, its kind, and its Text.
type sample struct {
	written string
	kind    int
	text    string
}

// samples are tokens of each kind.
var samples = []sample{
	{"@", At, "@"}, {"(", Open, "("}, {")", Close, ")"}, {",", Comma, ","},
	{"p", Word, "p"}, {"_", Word, "_"}, {"Ab_09", Word, "Ab_09"}, {"n1", Word, "n1"}, {"x", Word, "x"},
	{"0", Number, "0"}, {"-0", Number, "-0"}, {"007", Number, "007"}, {"-12", Number, "-12"},
	{`""`, Quote, ""}, {`"a b"`, Quote, "a b"}, {`"@(),-"`, Quote, "@(),-"}, {`"\""`, Quote, `"`}, {`"\n\\\x4a\x4A"`, Quote, "\n\\JJ"}, {"\"\xe9\x7f\"", Quote, "\xe9\x7f"},
}

// joins says whether two tokens side by side, with nothing between, are another token.
func joins(a, b sample) bool {
	switch a.kind {
	case Word:
		return b.kind == Word || b.kind == Number && b.written[0] != '-'
	case Number:
		return b.kind == Number && b.written[0] != '-'
	}
	return false
}
