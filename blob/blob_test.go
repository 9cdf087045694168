package blob

import (
	"bytes"
	"encoding/binary"
	"math"
	"slices"
	"strings"
	"testing"

	"tachograph/api"
	"tachograph/wire"
)

// nine are nine bytes none of which can be a number's last one.
const nine = "\xff\xff\xff\xff\xff\xff\xff\xff\xff"

// sizes are lengths of texts at which the count of the number's bytes changes, and their neighbours.
func sizes() []int {
	return []int{0, 1, 2, 3, 126, 127, 128, 129, 130, 199, 200, 201, 255, 256, 300, 16383, 16384, 16385, 70000}
}

// text is a text of so many bytes, among them all that a byte can be.
func text(size int) string {
	b := make([]byte, size)
	for i := range b {
		b[i] = byte(i*7 + size)
	}
	return string(b)
}

// written is what the chapter calls a text's bytes, by the library's own writing of numbers.
func written(s string) string {
	return string(binary.AppendUvarint(nil, uint64(len(s)))) + s
}

func TestWritings(t *testing.T) {
	for _, c := range []struct {
		s, want string
	}{
		{"", "\x00"},
		{"ab", "\x02ab"},
		{"\x00", "\x01\x00"},
		{"\xff\x80", "\x02\xff\x80"},
		{"å", "\x02\xc3\xa5"},
		{"\x02ab", "\x03\x02ab"},
		{strings.Repeat("x", 127), "\x7f" + strings.Repeat("x", 127)},
		{strings.Repeat("x", 128), "\x80\x01" + strings.Repeat("x", 128)},
		{strings.Repeat("x", 300), "\xac\x02" + strings.Repeat("x", 300)},
		{strings.Repeat("x", 16384), "\x80\x80\x01" + strings.Repeat("x", 16384)},
	} {
		if b := Put(nil, c.s); string(b) != c.want {
			t.Errorf("Put(nil, %q) = %x, want %x", c.s, b, c.want)
		}
	}
}

func TestPutStandsBehind(t *testing.T) {
	for _, front := range []string{"", "\x00", "z", "\x02ab", "\x80", nine + nine} {
		for _, size := range sizes() {
			s := text(size)
			if b := Put([]byte(front), s); string(b) != front+written(s) {
				t.Errorf("Put(%x, a text of %d bytes) isn't that text's bytes behind", front, size)
			}
		}
	}
}

func TestPutLeavesWhatIsHandedIn(t *testing.T) {
	whole := bytes.Repeat([]byte{7}, 20)
	for front := range 10 {
		for _, s := range []string{"", "a", "abcde"} {
			b := Put(whole[:front], s)
			for i := range b {
				b[i] = 9
			}
			if !bytes.Equal(whole, bytes.Repeat([]byte{7}, 20)) {
				t.Fatalf("Put behind %d bytes wrote into what was handed in: %x", front, whole)
			}
		}
	}
}

func TestPutKeepsNothing(t *testing.T) {
	front := []byte{1, 2}
	b := Put(front, "a")
	front[0] = 9
	if string(b) != "\x01\x02\x01a" {
		t.Errorf("what was answered changed with what was handed in: %x", b)
	}
	one, two := Put(b, "b"), Put(b, "c")
	if string(one) != "\x01\x02\x01a\x01b" || string(two) != "\x01\x02\x01a\x01c" {
		t.Errorf("two answers share memory: %x, %x", one, two)
	}
}

func TestGetIsWhatWasPut(t *testing.T) {
	for _, size := range sizes() {
		s := text(size)
		for _, behind := range []string{"", "\x00", "a", "\x80", nine + nine} {
			b := []byte(written(s) + behind)
			for _, most := range []int{size, size + 1, math.MaxInt} {
				got, n, e := Get(b, most)
				if got != s || n != len(written(s)) || e != api.OK {
					t.Errorf("Get of a text of %d bytes, at most %d: %d bytes, %d, %d", size, most, len(got), n, e)
				}
			}
		}
	}
}

func TestMost(t *testing.T) {
	for _, size := range sizes() {
		b := []byte(written(text(size)))
		for _, most := range []int{math.MinInt, -5, -1, 0, 1, size - 1, size, size + 1, math.MaxInt} {
			want := api.OK
			if size > max(most, 0) {
				want = api.ErrLimit
			}
			if _, _, e := Get(b, most); e != want {
				t.Errorf("Get of a text of %d bytes, at most %d: error %d, want %d", size, most, e, want)
			}
		}
	}
}

// checkNoText holds Get and All of bytes that begin with no text against the error that tells why.
func checkNoText(t *testing.T, b []byte, most int, want api.Errno) {
	t.Helper()
	if s, size, e := Get(b, most); s != "" || size != 0 || e != want {
		t.Errorf("Get(%x, %d) = %q, %d, %d, want error %d", b, most, s, size, e, want)
	}
	if len(b) == 0 {
		return
	}
	if l, e := All(b, most); len(l) != 0 || e != want {
		t.Errorf("All(%x, %d) = %q, %d, want error %d", b, most, l, e, want)
	}
}

func TestNoText(t *testing.T) {
	for _, c := range []struct {
		b    string
		most int
		want api.Errno
	}{
		{"", 0, api.ErrShort},
		{"", 5, api.ErrShort},
		{"", -5, api.ErrShort},
		{"\x80", 5, api.ErrShort},
		{nine, 5, api.ErrShort},
		{nine, -5, api.ErrShort},
		{"\x80\x00", 5, api.ErrForm},
		{"\x80\x00", -5, api.ErrForm},
		{"\x82\x00ab", 5, api.ErrForm},
		{nine + "\x00", 5, api.ErrForm},
		{nine + "\x02", 5, api.ErrLong},
		{nine + "\x02", -5, api.ErrLong},
		{nine + nine, math.MaxInt, api.ErrLong},
		{"\x01", 0, api.ErrLimit},
		{"\x01a", 0, api.ErrLimit},
		{"\x01a", -1, api.ErrLimit},
		{"\x01a", math.MinInt, api.ErrLimit},
		{"\x02ab", 1, api.ErrLimit},
		{"\x02a", 1, api.ErrLimit},
		{"\x02", 1, api.ErrLimit},
		{"\x02a", 2, api.ErrShort},
		{"\x02", 2, api.ErrShort},
		{"\x01", 1, api.ErrShort},
		{"\x01", math.MaxInt, api.ErrShort},
	} {
		checkNoText(t, []byte(c.b), c.most, c.want)
	}
	checkNoText(t, nil, 5, api.ErrShort)
}

func TestNumberAgainstWhatIsBehind(t *testing.T) {
	for _, size := range sizes() {
		s := text(size)
		just := append(wire.Put(nil, uint64(size)), s...)
		if got, n, e := Get(just, math.MaxInt); got != s || n != len(just) || e != api.OK {
			t.Errorf("a number just as great as the %d bytes behind it: %d, %d", size, n, e)
		}
		more := append(wire.Put(nil, uint64(size)+1), s...)
		checkNoText(t, more, math.MaxInt, api.ErrShort)
		checkNoText(t, more, size+1, api.ErrShort)
		checkNoText(t, more, size, api.ErrLimit)
	}
}

func TestHugeNumbers(t *testing.T) {
	for shift := 20; shift < 64; shift++ {
		for _, n := range []uint64{1<<shift - 1, 1 << shift, 1<<shift + 1, 2<<shift - 1} {
			b := append(wire.Put(nil, n), "abc"...)
			want := api.ErrShort
			if n > math.MaxInt {
				want = api.ErrLimit
			}
			checkNoText(t, b, math.MaxInt, want)
			checkNoText(t, b, api.MaxStr, api.ErrLimit)
			checkNoText(t, b, 0, api.ErrLimit)
			checkNoText(t, b, -1, api.ErrLimit)
			checkNoText(t, b, math.MinInt, api.ErrLimit)
		}
	}
	checkNoText(t, wire.Put(nil, math.MaxUint64), math.MaxInt, api.ErrLimit)
	checkNoText(t, wire.Put(nil, math.MaxUint64), -1, api.ErrLimit)
}

func TestAll(t *testing.T) {
	for _, texts := range [][]string{
		{},
		{""},
		{"", "", ""},
		{"ab"},
		{"a", "", "bc"},
		{"", "a"},
		{"a", ""},
		{"\x01a", "\x80", nine},
		{text(127), text(128), text(0), text(16384)},
	} {
		var b []byte
		for _, s := range texts {
			b = Put(b, s)
		}
		if l, e := All(b, math.MaxInt); !slices.Equal(l, texts) || e != api.OK {
			t.Errorf("All(%x) = %q, %d, want %q", b, l, e, texts)
		}
	}
	for _, most := range []int{math.MinInt, -1, 0, 5} {
		if l, e := All(nil, most); len(l) != 0 || e != api.OK {
			t.Errorf("All(nil, %d) = %q, %d", most, l, e)
		}
		if l, e := All([]byte{}, most); len(l) != 0 || e != api.OK {
			t.Errorf("All of no bytes, %d = %q, %d", most, l, e)
		}
	}
	if l, e := All([]byte{0, 0}, -5); !slices.Equal(l, []string{"", ""}) || e != api.OK {
		t.Errorf("All of two empty texts, at most -5 = %q, %d", l, e)
	}
}

func TestAllTellsTheFirstError(t *testing.T) {
	for _, c := range []struct {
		b    string
		most int
		want api.Errno
	}{
		{"\x01a\x02bc", 1, api.ErrLimit},
		{"\x01a\x02b", 2, api.ErrShort},
		{"\x01a\x02b", 1, api.ErrLimit},
		{"\x01a\x02", 2, api.ErrShort},
		{"\x01a\x80", 2, api.ErrShort},
		{"\x01a\x80\x00", 2, api.ErrForm},
		{"\x01a" + nine + "\x02", 2, api.ErrLong},
		{"\x01a\x80\x00\x02bc", 1, api.ErrForm},
		{"\x01a\x02bc\x80\x00", 1, api.ErrLimit},
		{"\x00\x00\x01", 2, api.ErrShort},
		{"\x80\x00\x01a", 2, api.ErrForm},
	} {
		if l, e := All([]byte(c.b), c.most); len(l) != 0 || e != c.want {
			t.Errorf("All(%x, %d) = %q, %d, want error %d", c.b, c.most, l, e, c.want)
		}
	}
}

// Cut off anywhere but between two texts, the bytes are no texts'; cut off there they are those ahead.
func TestAllCutOff(t *testing.T) {
	texts := []string{"a", "", text(128), "bc"}
	var b []byte
	ends := map[int]int{0: 0}
	for i, s := range texts {
		b = Put(b, s)
		ends[len(b)] = i + 1
	}
	for size := range len(b) + 1 {
		l, e := All(b[:size], api.MaxStr)
		count, whole := ends[size]
		switch {
		case whole && (e != api.OK || !slices.Equal(l, texts[:count])):
			t.Errorf("All of the first %d bytes = %q, %d, want %d texts", size, l, e, count)
		case !whole && (e != api.ErrShort || len(l) != 0):
			t.Errorf("All of the first %d bytes = %q, %d, want ErrShort", size, l, e)
		}
	}
}

func TestReadingLeavesAndKeepsNothing(t *testing.T) {
	b := []byte("\x02ab\x01c")
	s, _, _ := Get(b, 2)
	l, _ := All(b, 2)
	if string(b) != "\x02ab\x01c" {
		t.Errorf("reading changed what was handed in: %x", b)
	}
	for i := range b {
		b[i] = 'z'
	}
	if s != "ab" || !slices.Equal(l, []string{"ab", "c"}) {
		t.Errorf("what was answered changed with what was handed in: %q, %q", s, l)
	}
	again := []byte("\x01a\x01b")
	one, _ := All(again, 1)
	two, _ := All(again, 1)
	one[0] = "z"
	if !slices.Equal(two, []string{"a", "b"}) {
		t.Errorf("two answers share memory: %q", two)
	}
}

// What lies behind the bytes in their memory is none of them.
func TestReadingStaysWithin(t *testing.T) {
	whole := []byte("\x02abcdef")
	checkNoText(t, whole[:2], 5, api.ErrShort)
	if l, e := All(whole[:3], 5); !slices.Equal(l, []string{"ab"}) || e != api.OK {
		t.Errorf("All of the first text = %q, %d", l, e)
	}
}

// answer is what the chapter says of Get's error.
func answer(b []byte, most int) api.Errno {
	n, front, e := wire.Get(b)
	switch {
	case e != api.OK:
		return e
	case most < 0 && n > 0, most >= 0 && n > uint64(most):
		return api.ErrLimit
	case n > uint64(len(b))-uint64(front):
		return api.ErrShort
	}
	return api.OK
}

// checkOneWay holds what is read of bytes against the rule, and against what is written of it.
func checkOneWay(t *testing.T, b []byte, most int) {
	t.Helper()
	s, size, e := Get(b, most)
	if want := answer(b, most); e != want {
		t.Errorf("Get(%x, %d): error %d, want %d", b, most, e, want)
	}
	if e != api.OK && (s != "" || size != 0) {
		t.Errorf("Get(%x, %d) = %q, %d beside error %d", b, most, s, size, e)
	}
	if e == api.OK && (size < 1 || size > len(b) || !bytes.Equal(Put(nil, s), b[:size])) {
		t.Errorf("Get(%x, %d) = %q, %d, which has the bytes %x", b, most, s, size, Put(nil, s))
	}
	l, e := All(b, most)
	if e != api.OK && len(l) != 0 {
		t.Errorf("All(%x, %d) = %q beside error %d", b, most, l, e)
	}
	var back []byte
	for _, s := range l {
		back = Put(back, s)
	}
	if e == api.OK && !bytes.Equal(back, b) {
		t.Errorf("All(%x, %d) = %q, which have the bytes %x", b, most, l, back)
	}
}

// All bytes up to six of those few that tell most: ends of texts, short ones, and numbers that go on.
func TestOneWayOfFewBytes(t *testing.T) {
	few := []byte{0, 1, 2, 3, 0x80, 0x81, 0xff}
	all := [][]byte{nil}
	for from := 0; len(all[from]) < 6; from++ {
		for _, c := range few {
			all = append(all, append(slices.Clone(all[from]), c))
		}
	}
	for _, b := range all {
		for _, most := range []int{-1, 0, 1, 2, math.MaxInt} {
			checkOneWay(t, b, most)
		}
	}
}

func TestOneWayOfAnyFront(t *testing.T) {
	tail := text(300)
	for i := range 256 {
		for j := range 256 {
			for _, most := range []int{0, api.MaxStr, math.MaxInt} {
				checkOneWay(t, []byte{byte(i), byte(j)}, most)
				checkOneWay(t, append([]byte{byte(i), byte(j)}, tail...), most)
			}
		}
	}
}

func TestOneWayOfLongNumbers(t *testing.T) {
	for size := range 12 {
		for _, fill := range []byte{0x80, 0x81, 0xff} {
			for c := range 256 {
				b := append(bytes.Repeat([]byte{fill}, size), byte(c))
				checkOneWay(t, b, math.MaxInt)
				checkOneWay(t, append(b, "abc"...), math.MaxInt)
				checkOneWay(t, append(b, "abc"...), api.MaxStr)
			}
		}
	}
}
