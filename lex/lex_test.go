package lex

import (
	"math/rand"
	"strings"
	"testing"

	"tachograph/api"
	"tachograph/quote"
)

// TestP21_1_Example: the chapter's example.
func TestP21_1_Example(t *testing.T) {
	same(t, "example", tokens(t, `@12 p("a",-3)`), []Token{
		{At, "@", at(1, 1)}, {Number, "12", at(1, 2)}, {Word, "p", at(1, 5)}, {Open, "(", at(1, 6)},
		{Quote, "a", at(1, 7)}, {Comma, ",", at(1, 10)}, {Number, "-3", at(1, 11)}, {Close, ")", at(1, 13)},
	})
}

// TestP21_1_Kinds: the kinds have the chapter's numbers.
func TestP21_1_Kinds(t *testing.T) {
	for i, kind := range []int{At, Open, Close, Comma, Word, Number, Quote} {
		if kind != i+1 {
			t.Errorf("%d, not %d", kind, i+1)
		}
	}
}

// TestP21_1_Blanks: there are no tokens where only blanks are.
func TestP21_1_Blanks(t *testing.T) {
	texts := append([]string{"", " \t\n\r", "\r\n\r\n", strings.Repeat(" \t\r\n", 500)}, blanks...)
	for _, a := range blanks {
		for _, b := range blanks {
			texts = append(texts, a+b)
		}
	}
	for _, s := range texts {
		if l := tokens(t, s); len(l) != 0 {
			t.Errorf("%q: %v", s, l)
		}
	}
}

// TestP21_1_Alone: each kind alone, and with blanks around.
func TestP21_1_Alone(t *testing.T) {
	for _, x := range samples {
		same(t, x.written, tokens(t, x.written), []Token{{x.kind, x.text, at(1, 1)}})
		for _, b := range blanks {
			p := at(1, 2)
			if b == "\n" {
				p = at(2, 1)
			}
			same(t, b+x.written+b, tokens(t, b+x.written+b), []Token{{x.kind, x.text, p}})
		}
	}
}

// TestP21_1_Pairs: each two kinds side by side, with nothing and with each blank between.
func TestP21_1_Pairs(t *testing.T) {
	for _, a := range samples {
		for _, b := range samples {
			front := Token{a.kind, a.text, at(1, 1)}
			n := len(a.written) + 1
			check(t, a.written+b.written)
			if joins(a, b) {
				same(t, a.written+b.written, tokens(t, a.written+b.written), []Token{{a.kind, a.text + b.text, at(1, 1)}})
			} else {
				same(t, a.written+b.written, tokens(t, a.written+b.written), []Token{front, {b.kind, b.text, at(1, n)}})
			}
			for _, blank := range blanks {
				p := at(1, n+1)
				if blank == "\n" {
					p = at(2, 1)
				}
				same(t, a.written+blank+b.written, tokens(t, a.written+blank+b.written), []Token{front, {b.kind, b.text, p}})
			}
		}
	}
}

// TestP21_1_Words: a word is as long as it can be, and begins with no digit.
func TestP21_1_Words(t *testing.T) {
	const all = "ABCDEFGHIJKLMNOPQRSTUVWXYZabcdefghijklmnopqrstuvwxyz_0123456789"
	same(t, all, tokens(t, all), []Token{{Word, all, at(1, 1)}})
	long := strings.Repeat(all, 200)
	same(t, long, tokens(t, long+"("), []Token{{Word, long, at(1, 1)}, {Open, "(", at(1, len(long)+1)}})
	for i := range len(all) {
		c := all[i : i+1]
		kind := Word
		if c[0] <= '9' {
			kind = Number
		}
		same(t, c, tokens(t, c), []Token{{kind, c, at(1, 1)}})
		same(t, "a"+c, tokens(t, "a"+c), []Token{{Word, "a" + c, at(1, 1)}})
		same(t, "_"+c+"b", tokens(t, "_"+c+"b"), []Token{{Word, "_" + c + "b", at(1, 1)}})
	}
}

// TestP21_1_Numbers: a number has as many digits as there are, whatever they tell, and a minus sign or none.
func TestP21_1_Numbers(t *testing.T) {
	for _, s := range []string{"0", "-0", "00", "-00", "5", "-5", "0123456789", "-9876543210", "18446744073709551616", "-9223372036854775809", strings.Repeat("7", 5000), "-" + strings.Repeat("0", 5000) + "1"} {
		same(t, s, tokens(t, s), []Token{{Number, s, at(1, 1)}})
	}
	same(t, "12ab", tokens(t, "12ab"), []Token{{Number, "12", at(1, 1)}, {Word, "ab", at(1, 3)}})
	same(t, "0x1F", tokens(t, "0x1F"), []Token{{Number, "0", at(1, 1)}, {Word, "x1F", at(1, 2)}})
	same(t, "1_000", tokens(t, "1_000"), []Token{{Number, "1", at(1, 1)}, {Word, "_000", at(1, 2)}})
	same(t, "-1e5", tokens(t, "-1e5"), []Token{{Number, "-1", at(1, 1)}, {Word, "e5", at(1, 3)}})
	same(t, "ab12", tokens(t, "ab12"), []Token{{Word, "ab12", at(1, 1)}})
	same(t, "ab-12", tokens(t, "ab-12"), []Token{{Word, "ab", at(1, 1)}, {Number, "-12", at(1, 3)}})
	same(t, "1-2-3", tokens(t, "1-2-3"), []Token{{Number, "1", at(1, 1)}, {Number, "-2", at(1, 2)}, {Number, "-3", at(1, 4)}})
}

// TestP21_1_Quotes: the Text of a quote is what is in it, its bytes are those that it is written with.
func TestP21_1_Quotes(t *testing.T) {
	for i := range 256 {
		s := string([]byte{byte(i)})
		q := quote.Put(s)
		same(t, q, tokens(t, q+","), []Token{{Quote, s, at(1, 1)}, {Comma, ",", at(1, len(q)+1)}})
	}
	same(t, "side by side", tokens(t, `"a""b"""`), []Token{{Quote, "a", at(1, 1)}, {Quote, "b", at(1, 4)}, {Quote, "", at(1, 7)}})
	same(t, "a backslash last", tokens(t, `"\\"p`), []Token{{Quote, `\`, at(1, 1)}, {Word, "p", at(1, 5)}})
	same(t, "lines in it", tokens(t, `"\n\x0a\x0A" 1`), []Token{{Quote, "\n\n\n", at(1, 1)}, {Number, "1", at(1, 14)}})
	same(t, "above 127", tokens(t, "\"é\" @"), []Token{{Quote, "é", at(1, 1)}, {At, "@", at(1, 6)}})
	whole := `"` + strings.Repeat(`\x41`, 199) + `\n"`
	same(t, whole, tokens(t, whole+")"), []Token{{Quote, strings.Repeat("A", 199) + "\n", at(1, 1)}, {Close, ")", at(1, 801)}})
}

// TestP21_1_Bytes: each byte alone, ahead of, behind, and between tokens, at each kind of place.
func TestP21_1_Bytes(t *testing.T) {
	for i := range 256 {
		c := string([]byte{byte(i)})
		check(t, c)
		check(t, "\n"+c)
		check(t, c+c)
		for _, x := range samples {
			check(t, c+x.written)
			check(t, x.written+c)
			check(t, x.written+" "+c)
			for _, y := range samples {
				check(t, x.written+c+y.written)
			}
		}
	}
}

// TestP21_1_AllShort: all texts of up to five telling bytes.
func TestP21_1_AllShort(t *testing.T) {
	const telling = "@(),a0-\"\\n \n"
	var all func(front string, more int)
	all = func(front string, more int) {
		check(t, front)
		for i := 0; more > 0 && i < len(telling); i++ {
			all(front+telling[i:i+1], more-1)
		}
	}
	all("", 5)
}

// TestP21_1_AllPairs: all texts of two bytes, and of three with a blank between.
func TestP21_1_AllPairs(t *testing.T) {
	for i := range 1 << 16 {
		a, b := byte(i>>8), byte(i)
		check(t, string([]byte{a, b}))
		check(t, string([]byte{a, '\n', b}))
	}
}

// TestP21_1_Drawn: drawn tokens with drawn blanks between are these tokens, where they were put.
func TestP21_1_Drawn(t *testing.T) {
	r := rand.New(rand.NewSource(21))
	for range 5000 {
		var want []Token
		text, last := "", sample{}
		for range r.Intn(12) {
			x := samples[r.Intn(len(samples))]
			for joins(last, x) || r.Intn(2) == 0 {
				text, last = text+blanks[r.Intn(4)], sample{}
			}
			want = append(want, Token{x.kind, x.text, placeOf(text, len(text))})
			text, last = text+x.written, x
		}
		same(t, text, tokens(t, text), want)
	}
}

// TestP21_1_DrawnBytes: texts of drawn bytes, with those that tell oftener than others.
func TestP21_1_DrawnBytes(t *testing.T) {
	const often = "@(),-09azAZ_ \t\r\n\n\"\"\"\\nx"
	r := rand.New(rand.NewSource(22))
	for range 20000 {
		b := make([]byte, r.Intn(30))
		for i := range b {
			b[i] = often[r.Intn(len(often))]
			if r.Intn(20) == 0 {
				b[i] = byte(r.Intn(256))
			}
		}
		check(t, string(b))
	}
}

// TestP21_1_Long: a text of many lines has all its tokens.
func TestP21_1_Long(t *testing.T) {
	l, e, p := Lex(strings.Repeat("@5 p(\"a\\n\",-3)\r\n", 20000))
	if len(l) != 160000 || e != api.OK || p != (api.Place{}) {
		t.Fatal(len(l), e, p)
	}
	if got := l[159999]; got != (Token{Close, ")", at(20000, 14)}) {
		t.Error(got)
	}
}
