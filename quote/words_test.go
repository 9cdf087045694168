package quote

import (
	"encoding/hex"
	"fmt"
	"math/rand"
	"regexp"
	"slices"
	"strings"
	"testing"

	"tachograph/api"
)

// latin is a text with a sign for each byte, since a pattern goes by signs.
func latin(s string) string {
	r := make([]rune, len(s))
	for i := range len(s) {
		r[i] = rune(s[i])
	}
	return string(r)
}

// The chapter's words on how a quote may be written, as patterns: what stands for one byte, a quote, and the fronts of quotes that aren't whole.
const one = `(?:[^\x00-\x1f"\\]|\\["\\n]|\\x[0-9a-fA-F]{2})`

var (
	onePattern   = regexp.MustCompile(one)
	wholePattern = regexp.MustCompile(`^"` + one + `*"`)
	frontPattern = regexp.MustCompile(`^("` + one + `*(\\(x[0-9a-fA-F]?)?)?)?$`)
)

// byteOf is the byte that one of a quote's pieces stands for.
func byteOf(piece string) byte {
	switch {
	case piece == `\n`:
		return 10
	case strings.HasPrefix(piece, `\x`):
		b, err := hex.DecodeString(piece[2:])
		if err != nil {
			panic(err)
		}
		return b[0]
	case piece[0] == '\\':
		return piece[1]
	}
	return byte([]rune(piece)[0])
}

// answer is what the chapter says of Get, by the patterns.
func answer(text string) (string, int, api.Errno) {
	signs := latin(text)
	whole := wholePattern.FindString(signs)
	switch {
	case whole == "" && frontPattern.MatchString(signs):
		return "", 0, api.ErrShort
	case whole == "":
		return "", 0, api.ErrForm
	}
	var in []byte
	for _, piece := range onePattern.FindAllString(whole[1:len(whole)-1], -1) {
		in = append(in, byteOf(piece))
	}
	if len(in) > 200 {
		return "", 0, api.ErrLimit
	}
	return string(in), len([]rune(whole)), api.OK
}

// written is what the chapter calls a text's quote.
func written(s string) string {
	var q strings.Builder
	for i := range len(s) {
		switch c := s[i]; {
		case c == 34:
			q.WriteString(`\"`)
		case c == 92:
			q.WriteString(`\\`)
		case c == 10:
			q.WriteString(`\n`)
		case c < 32 || c > 126:
			fmt.Fprintf(&q, `\x%02x`, c)
		default:
			q.WriteByte(c)
		}
	}
	return `"` + q.String() + `"`
}

// checkGet holds Get of a text against what it should answer.
func checkGet(t *testing.T, text, want string, size int, why api.Errno) {
	t.Helper()
	if s, n, e := Get(text); s != want || n != size || e != why {
		t.Errorf("Get(%q) = %q, %d, %d, want %q, %d, %d", text, s, n, e, want, size, why)
	}
}

// checkError holds Get of a text against an error, beside which nothing stands.
func checkError(t *testing.T, text string, why api.Errno) {
	t.Helper()
	checkGet(t, text, "", 0, why)
}

// tails are what may stand behind a quote.
func tails() []string {
	return []string{"", " ", "a", `"`, `""`, `"b"`, ",", `,"b"`, `\`, `\"`, "\n", "\x00", "\x80", ")", "\xff\xff"}
}

// checkIn holds Get of a quote, with nothing and with anything behind it, against what is in it.
func checkIn(t *testing.T, q, want string) {
	t.Helper()
	for _, tail := range tails() {
		checkGet(t, q+tail, want, len(q), api.OK)
	}
}

// single is a text of one byte.
func single(c int) string { return string([]byte{byte(c)}) }

// all are all bytes, as one text.
func all() string {
	var b []byte
	for c := range 256 {
		b = append(b, byte(c))
	}
	return string(b)
}

// lists are all lists of up to so many of some.
func lists(of []string, most int) [][]string {
	l := [][]string{nil}
	for i := 0; i < len(l); i++ {
		if len(l[i]) < most {
			for _, s := range of {
				l = append(l, append(slices.Clone(l[i]), s))
			}
		}
	}
	return l
}

// texts are texts of every kind and of up to so many bytes, drawn from a fixed seed.
func texts(count, most int) []string {
	r := rand.New(rand.NewSource(20))
	l := make([]string, count)
	for i := range l {
		b := make([]byte, r.Intn(most+1))
		for j := range b {
			switch r.Intn(4) {
			case 0:
				b[j] = `"\nx04fFa,`[r.Intn(10)]
			case 1:
				b[j] = byte(r.Intn(33))
			default:
				b[j] = byte(r.Intn(256))
			}
		}
		l[i] = string(b)
	}
	return l
}
