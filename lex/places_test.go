package lex

import (
	"math/rand"
	"strings"
	"testing"

	"tachograph/api"
)

// ahead is whether a place is ahead of another one.
func ahead(a, b api.Place) bool {
	return a.Line < b.Line || a.Line == b.Line && a.Column < b.Column
}

// checkEnd holds what End answers against what is counted anew, twice.
func checkEnd(t *testing.T, text string) {
	t.Helper()
	for range 2 {
		if p := End(text); p != placeOf(text, len(text)) {
			t.Errorf("%q: %v, not %v", brief(text), p, placeOf(text, len(text)))
		}
	}
}

// TestP21_1_End: the place behind the last byte, columns in bytes.
func TestP21_1_End(t *testing.T) {
	for text, want := range map[string]api.Place{
		"": at(1, 1), "a": at(1, 2), "ab": at(1, 3), "ab\n": at(2, 1), "\n": at(2, 1), "\n\n\n": at(4, 1), "ab\ncd": at(2, 3), "ab\n\ncd\n": at(4, 1), "\nx": at(2, 2),
		"\r": at(1, 2), "ab\r\n": at(2, 1), "\r\rab": at(1, 5), "a\n\r": at(2, 2), "\t\t": at(1, 3), "\n\ta": at(2, 3), "é": at(1, 3), "\n€x": at(2, 5), "\xff\x80": at(1, 3),
		"\u2028": at(1, 4), "\u0085": at(1, 3), "\x0b\x0c\x00": at(1, 4), `\n`: at(1, 3), "\"a": at(1, 3), "+ -\n+": at(2, 2),
	} {
		checkEnd(t, text)
		if p := End(text); p != want {
			t.Errorf("%q: %v, not %v", text, p, want)
		}
	}
	if p := End(strings.Repeat("a", 70000)); p != at(1, 70001) {
		t.Error(p)
	}
	if p := End(strings.Repeat("\n", 70000) + "a"); p != at(70001, 2) {
		t.Error(p)
	}
	for i := range 256 {
		c := string([]byte{byte(i)})
		for _, text := range []string{c, "a" + c, c + "a", "\n" + c, c + "\n", "a\nb" + c + "c"} {
			checkEnd(t, text)
		}
	}
}

// drawnText is a text of drawn tokens, blanks, and at times a byte that is none.
func drawnText(r *rand.Rand) string {
	text := ""
	for range r.Intn(10) {
		switch r.Intn(8) {
		case 0, 1:
			text += samples[r.Intn(len(samples))].written
		case 2:
			if r.Intn(4) == 0 {
				text += string([]byte{byte(r.Intn(256))})
			}
		default:
			text += blanks[r.Intn(4)] + samples[r.Intn(len(samples))].written
		}
	}
	return text
}

// TestP21_2_Rise: places of tokens rise, and they and an error's are ahead of the end.
func TestP21_2_Rise(t *testing.T) {
	r := rand.New(rand.NewSource(24))
	good, bad := 0, 0
	for range 20000 {
		text := drawnText(r)
		check(t, text)
		checkEnd(t, text)
		l, e, p := Lex(text)
		if e != api.OK {
			bad++
			if !ahead(at(1, 0), p) || !ahead(p, End(text)) {
				t.Errorf("%q: %v", text, p)
			}
			continue
		}
		good++
		last := at(1, 0)
		for _, x := range l {
			if !ahead(last, x.Place) || !ahead(x.Place, End(text)) || x.Place.Line < 1 || x.Place.Column < 1 {
				t.Errorf("%q: %v", text, l)
			}
			last = x.Place
		}
	}
	if good < 1000 || bad < 1000 {
		t.Error(good, bad)
	}
}

// TestP21_2_Lines: of a text, a line feed and a text the tokens are those of both, the latter ones so many lines further on; so is the latter one's error.
func TestP21_2_Lines(t *testing.T) {
	r := rand.New(rand.NewSource(25))
	for range 20000 {
		a, b := drawnText(r), drawnText(r)
		front, e, _ := Lex(a)
		if e != api.OK {
			continue
		}
		back, wantE, wantP := Lex(b)
		more := End(a+"\n").Line - 1
		want := append([]Token(nil), front...)
		for _, x := range back {
			x.Place.Line += more
			want = append(want, x)
		}
		if wantE != api.OK {
			want, wantP.Line = nil, wantP.Line+more
		}
		l, e, p := Lex(a + "\n" + b)
		if e != wantE || p != wantP {
			t.Errorf("%q, %q: error %d at %v", a, b, e, p)
		}
		same(t, a+"\n"+b, l, want)
	}
}

// TestP21_2_Columns: columns go by bytes, and only a line feed ends a line.
func TestP21_2_Columns(t *testing.T) {
	same(t, "tabs", tokens(t, "\t\ta\r b"), []Token{{Word, "a", at(1, 3)}, {Word, "b", at(1, 6)}})
	same(t, "lines", tokens(t, "a\r\n\n \"\u2028\" b\n\nc"), []Token{{Word, "a", at(1, 1)}, {Quote, "\u2028", at(3, 2)}, {Word, "b", at(3, 8)}, {Word, "c", at(5, 1)}})
}
