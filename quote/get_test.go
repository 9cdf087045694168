package quote

import (
	"strings"
	"testing"

	"tachograph/api"
)

func TestGet(t *testing.T) {
	for _, c := range []struct{ q, want string }{
		{`"a\"b"`, `a"b`},
		{`""`, ""},
		{`" "`, " "},
		{`"a"`, "a"},
		{`"ab c,("`, "ab c,("},
		{`"\""`, `"`},
		{`"\\"`, `\`},
		{`"\\\\"`, `\\`},
		{`"\\\""`, `\"`},
		{`"\n"`, "\n"},
		{`"\\n"`, `\n`},
		{`"\\x41"`, `\x41`},
		{`"\x41"`, "A"},
		{`"\x4F\xfA\xAf\xFf"`, "\x4f\xfa\xaf\xff"},
		{`"\x00\x0a\x22\x5c\x7f"`, "\x00\n\"\\\x7f"},
		{`"\x414\x4a1"`, "A4J1"},
		{"\"\x7f\xc3\"", "\x7f\xc3"},
		{"\"é€\"", "é€"},
		{"\"\x80\xff\"", "\x80\xff"},
		{`"x41n"`, "x41n"},
	} {
		checkIn(t, c.q, c.want)
	}
}

func TestGetStopsAtTheFirstQuote(t *testing.T) {
	checkGet(t, `"a""b"`, "a", 3, api.OK)
	checkGet(t, `"""a"`, "", 2, api.OK)
	checkGet(t, `"a","b"`, "a", 3, api.OK)
	checkGet(t, `"a\"","b"`, `a"`, 5, api.OK)
	checkGet(t, `"a\\"b"`, `a\`, 5, api.OK)
	checkGet(t, `"a"`+"\n\x00"+`\q`, "a", 3, api.OK)
	checkGet(t, `"a"`+strings.Repeat("x", 1000), "a", 3, api.OK)
}

// Each byte as it is: from 32 on it stands for itself, but a double quote ends the quote and a backslash stands for nothing yet.
func TestEachByteAsItIs(t *testing.T) {
	for c := range 256 {
		q := `"a` + single(c) + `b"`
		switch {
		case c < 32:
			checkError(t, q, api.ErrForm)
			checkError(t, q[:3], api.ErrForm)
			checkError(t, `"`+single(c)+`"`, api.ErrForm)
		case c == 34:
			checkGet(t, q, "a", 3, api.OK)
		case c == 92:
			checkError(t, q, api.ErrForm)
		default:
			checkIn(t, q, "a"+single(c)+"b")
			checkIn(t, `"`+single(c)+`"`, single(c))
		}
	}
}

func TestEachByteBehindABackslash(t *testing.T) {
	for c := range 256 {
		front := `"a\` + single(c)
		switch c {
		case 34, 92:
			checkIn(t, front+`"`, "a"+single(c))
			checkIn(t, front+`b"`, "a"+single(c)+"b")
		case 'n':
			checkIn(t, front+`"`, "a\n")
			checkIn(t, front+`n"`, "a\nn")
		case 'x':
			checkIn(t, front+`4e"`, "aN")
			checkError(t, front+`"`, api.ErrForm)
		default:
			checkError(t, front, api.ErrForm)
			checkError(t, front+`"`, api.ErrForm)
			checkError(t, front+`4e"`, api.ErrForm)
		}
	}
}

func TestEveryTwoDigits(t *testing.T) {
	const lower, upper = "0123456789abcdef", "0123456789ABCDEF"
	for c := range 256 {
		high, low := c/16, c%16
		for _, higher := range []string{lower, upper} {
			for _, lower := range []string{lower, upper} {
				code := `\x` + higher[high:high+1] + lower[low:low+1]
				checkIn(t, `"`+code+`"`, single(c))
				checkIn(t, `"a`+code+`0`+code+`"`, "a"+single(c)+"0"+single(c))
			}
		}
	}
}

func TestEachByteInPlaceOfADigit(t *testing.T) {
	const digits = "0123456789abcdefABCDEF"
	for c := range 256 {
		if strings.IndexByte(digits, byte(c)) >= 0 {
			continue
		}
		for i := range len(digits) {
			d := digits[i : i+1]
			checkError(t, `"a\x`+single(c)+d+`"`, api.ErrForm)
			checkError(t, `"a\x`+d+single(c)+`"`, api.ErrForm)
			checkError(t, `"a\x`+d+single(c), api.ErrForm)
		}
		checkError(t, `"\x`+single(c), api.ErrForm)
		checkError(t, `"\x`+single(c)+single(c)+`"`, api.ErrForm)
	}
}

func TestFirstByte(t *testing.T) {
	checkError(t, "", api.ErrShort)
	for c := range 256 {
		if c == 34 {
			continue
		}
		for _, behind := range []string{"", `"`, `""`, `"a"`, "a", `\`, "\n"} {
			checkError(t, single(c)+behind, api.ErrForm)
		}
	}
	checkError(t, `'a'`, api.ErrForm)
	checkError(t, ` "a"`, api.ErrForm)
	checkError(t, `\"a"`, api.ErrForm)
	checkError(t, strings.Repeat("x", 1000), api.ErrForm)
}

func TestCutOff(t *testing.T) {
	for _, q := range []string{
		`""`, `"a"`, `"abc"`, `"\""`, `"\\"`, `"\n"`, `"\x4f"`, `"\xFF"`,
		`"a\"b\\c\nd\x41e"`, `"\"\\\n\x00\x22\x5c"`, "\"\x7f\x80\xff\"",
		Put(all()[:200]), Put(all()), Put(strings.Repeat("x", 500)),
	} {
		for size := range q {
			checkError(t, q[:size], api.ErrShort)
		}
	}
}

// Where both stand, just the one that is met first is told.
func TestFirstMet(t *testing.T) {
	for _, c := range []struct {
		text string
		want api.Errno
	}{
		{`a`, api.ErrForm},
		{`"`, api.ErrShort},
		{`"a`, api.ErrShort},
		{`"\`, api.ErrShort},
		{`"\x`, api.ErrShort},
		{`"\x4`, api.ErrShort},
		{`"\x41`, api.ErrShort},
		{`"\"`, api.ErrShort},
		{`"\\\"`, api.ErrShort},
		{`"\q`, api.ErrForm},
		{`"\X41"`, api.ErrForm},
		{`"\N"`, api.ErrForm},
		{`"\t"`, api.ErrForm},
		{`"\0"`, api.ErrForm},
		{`"\x"`, api.ErrForm},
		{`"\x4"`, api.ErrForm},
		{`"\x4g`, api.ErrForm},
		{`"\xg`, api.ErrForm},
		{`"\x 4"`, api.ErrForm},
		{`"\x+4"`, api.ErrForm},
		{"\"\n", api.ErrForm},
		{"\"\t\"", api.ErrForm},
		{"\"a\nb\"", api.ErrForm},
		{"\"\\\n\"", api.ErrForm},
		{"\"\\x4\n\"", api.ErrForm},
		{"\"a\x1f", api.ErrForm},
		{`"\q\x4`, api.ErrForm},
		{`"\x4\q"`, api.ErrForm},
		{"\"ok\\n\r", api.ErrForm},
	} {
		checkError(t, c.text, c.want)
	}
}

// pieces are ways to write one byte, and that byte.
func pieces() map[string]string {
	return map[string]string{"x": "x", "\xff": "\xff", `\"`: `"`, `\\`: `\`, `\n`: "\n", `\x4f`: "O", `\xFf`: "\xff", `\x0a`: "\n"}
}

func TestLimit(t *testing.T) {
	for piece, in := range pieces() {
		for _, size := range []int{199, 200} {
			checkIn(t, `"`+strings.Repeat(piece, size)+`"`, strings.Repeat(in, size))
		}
		for _, size := range []int{201, 202, 203, 255, 256, 257, 400, 456, 800, 1000, 70000} {
			q := `"` + strings.Repeat(piece, size) + `"`
			for _, tail := range []string{"", "a", `"`, `"b"`, "\n", `\`} {
				checkError(t, q+tail, api.ErrLimit)
			}
		}
	}
	most := strings.Repeat(`a\n\x00\"`, 50)
	checkIn(t, `"`+most+`"`, strings.Repeat("a\n\x00\"", 50))
	for piece := range pieces() {
		checkError(t, `"`+most+piece+`"`, api.ErrLimit)
	}
}

// What is too long is told only of a quote that is whole.
func TestLimitComesLast(t *testing.T) {
	for piece := range pieces() {
		for _, size := range []int{200, 201, 202, 300, 1000} {
			front := `"` + strings.Repeat(piece, size)
			for _, behind := range []string{"", `\`, `\x`, `\x4`, `\"`, `x`} {
				checkError(t, front+behind, api.ErrShort)
			}
			for _, behind := range []string{"\n", "\x00", "\x1f\"", "\t\"", `\q`, `\q"`, `\x"`, `\x4"`, `\xg`, `\x4g"`, `x\q"`} {
				checkError(t, front+behind, api.ErrForm)
			}
		}
	}
}

// checkAnswer holds Get of a text against the patterns, and what it takes, put in a quote again, against what is read of that.
func checkAnswer(t *testing.T, text string) {
	t.Helper()
	want, size, why := answer(text)
	checkGet(t, text, want, size, why)
	if s, _, e := Get(text); e == api.OK {
		q := Put(s)
		checkGet(t, q, s, len(q), api.OK)
	}
}

// All texts of up to six of those bytes that tell most, behind a double quote, and of up to four alone.
func TestTextsOfFewBytes(t *testing.T) {
	few := []string{`"`, `\`, "n", "x", "4", "F", "g", "\n"}
	for _, l := range lists(few, 6) {
		checkAnswer(t, `"`+strings.Join(l, ""))
	}
	for _, l := range lists(few, 4) {
		checkAnswer(t, strings.Join(l, ""))
	}
}

// Quotes with one byte another one, one put in, or one left out.
func TestQuotesThatWereChanged(t *testing.T) {
	for _, q := range []string{`"a\"b\\c\nd\x4Fe"`, `"\x00"`, `"\\\""`} {
		for at := range len(q) + 1 {
			for c := range 256 {
				checkAnswer(t, q[:at]+single(c)+q[at:])
				if at < len(q) {
					checkAnswer(t, q[:at]+single(c)+q[at+1:])
				}
			}
			if at < len(q) {
				checkAnswer(t, q[:at]+q[at+1:])
			}
		}
	}
}

func TestAnyTexts(t *testing.T) {
	for _, s := range texts(5000, 30) {
		checkAnswer(t, s)
		checkAnswer(t, `"`+s)
		checkAnswer(t, `"`+s+`"`)
	}
}

// checkBack holds what is read of a text's quote, with whatever behind, against the text.
func checkBack(t *testing.T, s string) {
	t.Helper()
	checkIn(t, Put(s), s)
}

func TestThereAndBackOfFewBytes(t *testing.T) {
	checkBack(t, "")
	for a := range 256 {
		checkBack(t, single(a))
		for b := range 256 {
			checkBack(t, single(a)+single(b))
		}
	}
}

func TestThereAndBack(t *testing.T) {
	for _, s := range texts(3000, 200) {
		checkBack(t, s)
	}
	for c := range 256 {
		checkBack(t, strings.Repeat(single(c), 200))
		for _, size := range []int{201, 202, 256, 456, 1000} {
			checkError(t, Put(strings.Repeat(single(c), size)), api.ErrLimit)
			checkError(t, Put(strings.Repeat(single(c), size))+`"b"`, api.ErrLimit)
		}
	}
	for _, s := range []string{all()[:200], all()[56:], `"a"`, `"\x41"`, Put(`"\`), "a€é", All("a", "b")} {
		checkBack(t, s)
	}
	checkError(t, Put(all()), api.ErrLimit)
	checkError(t, Put(all()[:201]), api.ErrLimit)
}
