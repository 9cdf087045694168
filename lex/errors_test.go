package lex

import (
	"strings"
	"testing"

	"tachograph/api"
	"tachograph/quote"
)

// begins is whether a byte begins a token, or is a blank.
func begins(c byte) bool {
	return strings.IndexByte("@(),_\" \t\n\r", c) >= 0 || '0' <= c && c <= '9' || 'a' <= c && c <= 'z' || 'A' <= c && c <= 'Z'
}

// TestP21_1_NoToken: each byte that begins no token is refused where it stands.
func TestP21_1_NoToken(t *testing.T) {
	count := 0
	for i := range 256 {
		if begins(byte(i)) {
			continue
		}
		count++
		c := string([]byte{byte(i)})
		refused(t, c, api.ErrForm, 1, 1)
		refused(t, "p("+c+")", api.ErrForm, 1, 3)
		refused(t, "@5 p\n\t "+c, api.ErrForm, 2, 3)
		refused(t, "\r\n\n5"+c+c, api.ErrForm, 3, 2)
		refused(t, "\"\xc3\xa9\""+c, api.ErrForm, 1, 5)
	}
	if count != 256-63-9 {
		t.Error(count)
	}
}

// TestP21_1_Minus: a minus sign without a digit behind begins no token.
func TestP21_1_Minus(t *testing.T) {
	refused(t, "-", api.ErrForm, 1, 1)
	refused(t, "5-", api.ErrForm, 1, 2)
	refused(t, "p\n -", api.ErrForm, 2, 2)
	refused(t, "--", api.ErrForm, 1, 1)
	refused(t, "--1", api.ErrForm, 1, 1)
	refused(t, "1--1", api.ErrForm, 1, 2)
	for _, b := range append(blanks, "a", "Z", "_", "@", "(", ")", ",", "\"\"", "+", ".", "\x00", "/", ":", "\xb2") {
		refused(t, "-"+b, api.ErrForm, 1, 1)
		refused(t, "-"+b+"1", api.ErrForm, 1, 1)
		refused(t, "\n0 -"+b+"1", api.ErrForm, 2, 3)
	}
}

// TestP21_1_Quote: of a quote that isn't one, layer 20's error is told, where the quote begins.
func TestP21_1_Quote(t *testing.T) {
	long := strings.Repeat("a", 201)
	for _, x := range []struct {
		written string
		e       api.Errno
	}{
		{`"`, api.ErrShort}, {`"a`, api.ErrShort}, {`"\`, api.ErrShort}, {`"\x`, api.ErrShort}, {`"\x4`, api.ErrShort}, {`"\"`, api.ErrShort}, {`"` + long, api.ErrShort},
		{`"\q"`, api.ErrForm}, {`"\xg0"`, api.ErrForm}, {`"\x0"`, api.ErrForm}, {"\"a\nb\"", api.ErrForm}, {"\"\t\"", api.ErrForm}, {"\"\\\n\"", api.ErrForm}, {`"\X41"`, api.ErrForm},
		{`"` + long + `"`, api.ErrLimit}, {`"` + strings.Repeat(`\x41`, 201) + `"`, api.ErrLimit}, {quote.Put(strings.Repeat("\n", 5000)), api.ErrLimit},
	} {
		if _, _, e := quote.Get(x.written); e != x.e {
			t.Fatalf("%q: layer 20 answers %d", brief(x.written), e)
		}
		refused(t, x.written, x.e, 1, 1)
		refused(t, "p("+x.written, x.e, 1, 3)
		refused(t, "@1 p(\"a\")\r\n@2\t\n  q(-3,"+x.written, x.e, 3, 8)
	}
}

// TestP21_1_First: the first error that is met is told, whatever comes behind.
func TestP21_1_First(t *testing.T) {
	refused(t, "a + \"", api.ErrForm, 1, 3)
	refused(t, "a \"b\n + c", api.ErrForm, 1, 3)
	refused(t, "a \"\\q\" \"", api.ErrForm, 1, 3)
	refused(t, "\""+strings.Repeat("a", 201)+"\" +", api.ErrLimit, 1, 1)
	refused(t, "+ \""+strings.Repeat("a", 201)+"\"", api.ErrForm, 1, 1)
	refused(t, "\""+strings.Repeat("a", 201)+" \\q", api.ErrForm, 1, 1)
	refused(t, "\n- \"", api.ErrForm, 2, 1)
	refused(t, "1 \"- +", api.ErrShort, 1, 3)
	refused(t, "@5 p\xe2\x80\xa6", api.ErrForm, 1, 5)
	refused(t, strings.Repeat("p(1,\"a\")\n", 3000)+"+", api.ErrForm, 3001, 1)
}
