package quote

import (
	"slices"
	"strings"
	"testing"

	"tachograph/api"
)

func TestPut(t *testing.T) {
	for _, c := range []struct{ s, want string }{
		{`a"b`, `"a\"b"`},
		{"", `""`},
		{" ", `" "`},
		{"ab c", `"ab c"`},
		{`"`, `"\""`},
		{`""`, `"\"\""`},
		{`\`, `"\\"`},
		{`\\`, `"\\\\"`},
		{`\"`, `"\\\""`},
		{`"\`, `"\"\\"`},
		{"\n", `"\n"`},
		{"\n\n", `"\n\n"`},
		{"n", `"n"`},
		{`\n`, `"\\n"`},
		{"\\\n", `"\\\n"`},
		{`\x41`, `"\\x41"`},
		{"\x00", `"\x00"`},
		{"\x01\x09\x0b\x0d\x0f", `"\x01\x09\x0b\x0d\x0f"`},
		{"\x10\x1a\x1b\x1f", `"\x10\x1a\x1b\x1f"`},
		{"\x7e\x7f\x80", `"~\x7f\x80"`},
		{"\x9f\xa0\xab\xcd\xef\xff", `"\x9f\xa0\xab\xcd\xef\xff"`},
		{"\x014", `"\x014"`},
		{"!#[]^'`", "\"!#[]^'`\""},
		{"é", `"\xc3\xa9"`},
		{"a€b", `"a\xe2\x82\xacb"`},
		{"\U0001F600", `"\xf0\x9f\x98\x80"`},
		{"\ufffd", `"\xef\xbf\xbd"`},
		{"a,\tb\r\n\"c\\", `"a,\x09b\x0d\n\"c\\"`},
		{strings.Repeat("x", 201), `"` + strings.Repeat("x", 201) + `"`},
		{strings.Repeat("\"\n\xff", 5000), `"` + strings.Repeat(`\"\n\xff`, 5000) + `"`},
	} {
		if q := Put(c.s); q != c.want {
			t.Errorf("Put(%q) = %q, want %q", c.s, q, c.want)
		}
	}
}

func TestPutOfEachByte(t *testing.T) {
	const higher, lower = "0123456789abcdef", "0123456789abcdef"
	for c := range 256 {
		want := `"` + single(c) + `"`
		switch {
		case c == 10:
			want = `"\n"`
		case c == 34, c == 92:
			want = `"\` + single(c) + `"`
		case c < 32, c > 126:
			want = `"\x` + higher[c/16:c/16+1] + lower[c%16:c%16+1] + `"`
		}
		if q := Put(single(c)); q != want {
			t.Errorf("Put of the byte %d = %q, want %q", c, q, want)
		}
	}
}

func TestPutByteByByte(t *testing.T) {
	for _, s := range append(texts(2000, 400), all(), strings.Repeat(all(), 300)) {
		if q := Put(s); q != written(s) {
			t.Errorf("Put(%.80q) = %.200q, want %.200q", s, q, written(s))
		}
	}
}

func TestAll(t *testing.T) {
	for _, c := range []struct {
		l    []string
		want string
	}{
		{nil, ""},
		{[]string{}, ""},
		{[]string{""}, `""`},
		{[]string{"a"}, `"a"`},
		{[]string{`a"b`}, `"a\"b"`},
		{[]string{"a", "b"}, `"a","b"`},
		{[]string{"b", "a", "b"}, `"b","a","b"`},
		{[]string{"a", "", "b"}, `"a","","b"`},
		{[]string{"", ""}, `"",""`},
		{[]string{"", "a"}, `"","a"`},
		{[]string{"a", ""}, `"a",""`},
		{[]string{","}, `","`},
		{[]string{",", `","`}, `",","\",\""`},
		{[]string{"a,b", "c"}, `"a,b","c"`},
		{[]string{`"`, `\`, "\n"}, `"\"","\\","\n"`},
		{[]string{"é", "\xff"}, `"\xc3\xa9","\xff"`},
	} {
		if s := All(c.l...); s != c.want {
			t.Errorf("All(%q) = %q, want %q", c.l, s, c.want)
		}
	}
	if s := All(); s != "" {
		t.Errorf("All of nothing handed in = %q", s)
	}
	if s := All("a", "", "b"); s != `"a","","b"` {
		t.Errorf("All of three that are handed in one by one = %q", s)
	}
}

// checkAll holds the quotes of a list against its texts' quotes, and against what is read of them, one behind the other.
func checkAll(t *testing.T, l []string) {
	t.Helper()
	var quotes []string
	for _, s := range l {
		quotes = append(quotes, written(s))
	}
	rest := All(l...)
	if rest != strings.Join(quotes, ",") {
		t.Fatalf("All(%q) = %q, want %q with commas between", l, rest, quotes)
	}
	for i, s := range l {
		got, size, e := Get(rest)
		if got != s || e != api.OK {
			t.Fatalf("of All(%q) the text %d is read as %q, %d", l, i, got, e)
		}
		rest = rest[size:]
		if i < len(l)-1 {
			rest = rest[1:]
		}
	}
	if rest != "" {
		t.Fatalf("behind All(%q) stands %q", l, rest)
	}
}

func TestAllOfLists(t *testing.T) {
	for _, l := range lists([]string{"", "a", ",", `"`, `","`, `\`, "\n", "\xff"}, 4) {
		checkAll(t, l)
	}
	checkAll(t, texts(3000, 200))
}

func TestHandedInStays(t *testing.T) {
	whole := []string{"a", "\n", "", `"`, "b"}
	for size := range len(whole) + 1 {
		All(whole[:size]...)
	}
	if !slices.Equal(whole, []string{"a", "\n", "", `"`, "b"}) {
		t.Errorf("All changed what was handed in: %q", whole)
	}
	s := All(whole...)
	clear(whole)
	if s != `"a","\n","","\"","b"` {
		t.Errorf("what All answered changed with what was handed in: %q", s)
	}
}

func TestSameAgain(t *testing.T) {
	l := append(texts(200, 300), "", all())
	for _, s := range l {
		q := Put(s)
		in, size, e := Get(q + "z")
		Get(`"\x4`)
		All(s, q)
		Put("other")
		if again := Put(s); again != q {
			t.Errorf("Put(%q) = %q, and again %q", s, q, again)
		}
		if in2, size2, e2 := Get(q + "z"); in2 != in || size2 != size || e2 != e {
			t.Errorf("Get(%q) = %q, %d, %d, and again %q, %d, %d", q+"z", in, size, e, in2, size2, e2)
		}
	}
	if All(l...) != All(l...) {
		t.Error("All answers otherwise when it is asked again")
	}
}
