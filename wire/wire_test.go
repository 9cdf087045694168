package wire

import (
	"bytes"
	"encoding/binary"
	"math"
	"slices"
	"testing"

	"tachograph/api"
)

// edges are the numbers at which the count of bytes or the sign's place changes, and their neighbours.
func edges() []uint64 {
	l := []uint64{0, 1, 300, math.MaxUint64}
	for shift := range 64 {
		n := uint64(1) << shift
		l = append(l, n-1, n, n+1)
	}
	return l
}

// nine are nine bytes none of which can be a number's last one.
const nine = "\xff\xff\xff\xff\xff\xff\xff\xff\xff"

func TestWritings(t *testing.T) {
	for _, c := range []struct {
		n    uint64
		want string
	}{
		{0, "\x00"},
		{1, "\x01"},
		{127, "\x7f"},
		{128, "\x80\x01"},
		{129, "\x81\x01"},
		{300, "\xac\x02"},
		{16383, "\xff\x7f"},
		{16384, "\x80\x80\x01"},
		{1<<63 - 1, "\xff\xff\xff\xff\xff\xff\xff\xff\x7f"},
		{1 << 63, "\x80\x80\x80\x80\x80\x80\x80\x80\x80\x01"},
		{math.MaxUint64, nine + "\x01"},
	} {
		if b := Put(nil, c.n); string(b) != c.want {
			t.Errorf("Put(nil, %d) = %x, want %x", c.n, b, c.want)
		}
		if size := Size(c.n); size != len(c.want) {
			t.Errorf("Size(%d) = %d, want %d", c.n, size, len(c.want))
		}
		for _, behind := range []string{"", "\x00", "\x05", "\x80", nine + nine} {
			n, size, e := Get([]byte(c.want + behind))
			if n != c.n || size != len(c.want) || e != api.OK {
				t.Errorf("Get(%x) = %d, %d, %d", c.want+behind, n, size, e)
			}
		}
	}
}

func TestAgainstBinary(t *testing.T) {
	for _, n := range edges() {
		want := binary.AppendUvarint(nil, n)
		if b := Put(nil, n); !bytes.Equal(b, want) {
			t.Errorf("Put(nil, %d) = %x, want %x", n, b, want)
		}
		if size := Size(n); size != len(want) {
			t.Errorf("Size(%d) = %d, want %d", n, size, len(want))
		}
		if x, size, e := Get(want); x != n || size != len(want) || e != api.OK {
			t.Errorf("Get(%x) = %d, %d, %d", want, x, size, e)
		}
	}
}

func TestPutStandsBehind(t *testing.T) {
	for _, front := range [][]byte{nil, {}, {0}, {1, 2, 3}, []byte(nine + nine)} {
		for _, n := range []uint64{0, 127, 128, math.MaxUint64} {
			want := binary.AppendUvarint(slices.Clone(front), n)
			if b := Put(front, n); !bytes.Equal(b, want) {
				t.Errorf("Put(%x, %d) = %x, want %x", front, n, b, want)
			}
		}
	}
}

func TestPutLeavesWhatIsHandedIn(t *testing.T) {
	whole := bytes.Repeat([]byte{7}, 20)
	for front := range 10 {
		b := Put(whole[:front], math.MaxUint64)
		for i := range b {
			b[i] = 9
		}
		if !bytes.Equal(whole, bytes.Repeat([]byte{7}, 20)) {
			t.Fatalf("Put behind %d bytes wrote into what was handed in: %x", front, whole)
		}
	}
}

func TestPutKeepsNothing(t *testing.T) {
	front := []byte{1, 2}
	b := Put(front, 5)
	front[0] = 9
	if !bytes.Equal(b, []byte{1, 2, 5}) {
		t.Errorf("what was answered changed with what was handed in: %x", b)
	}
	one, two := Put(b, 6), Put(b, 7)
	if !bytes.Equal(one, []byte{1, 2, 5, 6}) || !bytes.Equal(two, []byte{1, 2, 5, 7}) {
		t.Errorf("two answers share memory: %x, %x", one, two)
	}
}

func TestGetLeavesWhatIsHandedIn(t *testing.T) {
	b := []byte{172, 2, 5}
	Get(b)
	if !bytes.Equal(b, []byte{172, 2, 5}) {
		t.Errorf("Get changed what was handed in: %x", b)
	}
}

func TestNoNumber(t *testing.T) {
	for _, c := range []struct {
		b    string
		want api.Errno
	}{
		{"", api.ErrShort},
		{"\x80", api.ErrShort},
		{"\xff", api.ErrShort},
		{nine[:8], api.ErrShort},
		{nine, api.ErrShort},
		{"\x80\x80\x80\x80\x80\x80\x80\x80\x80", api.ErrShort},
		{nine + "\x02", api.ErrLong},
		{nine + "\x03", api.ErrLong},
		{nine + "\x7f", api.ErrLong},
		{nine + "\x80", api.ErrLong},
		{nine + "\x81", api.ErrLong},
		{nine + "\xff", api.ErrLong},
		{nine + "\x80\x00", api.ErrLong},
		{nine + "\x80\x01", api.ErrLong},
		{nine + "\x02\x00", api.ErrLong},
		{nine + nine + nine, api.ErrLong},
		{"\x80\x80\x80\x80\x80\x80\x80\x80\x80\x02", api.ErrLong},
		{"\x80\x00", api.ErrForm},
		{"\xff\x00", api.ErrForm},
		{"\x80\x00\x01", api.ErrForm},
		{"\xff\x80\x00", api.ErrForm},
		{nine[:8] + "\x00", api.ErrForm},
		{nine + "\x00", api.ErrForm},
		{nine + "\x00\xff", api.ErrForm},
		{"\x80\x80\x80\x80\x80\x80\x80\x80\x80\x00", api.ErrForm},
	} {
		if n, size, e := Get([]byte(c.b)); n != 0 || size != 0 || e != c.want {
			t.Errorf("Get(%x) = %d, %d, %d, want error %d", c.b, n, size, e, c.want)
		}
	}
	if n, size, e := Get(nil); n != 0 || size != 0 || e != api.ErrShort {
		t.Errorf("Get(nil) = %d, %d, %d", n, size, e)
	}
}

// answer is what the chapter says of Get, as a rule over the first byte below 128.
func answer(b []byte) api.Errno {
	end := slices.IndexFunc(b, func(c byte) bool { return c < 128 })
	switch {
	case len(b) >= 10 && (end < 0 || end > 9):
		return api.ErrLong
	case end == 9 && b[9] > 1:
		return api.ErrLong
	case end < 0:
		return api.ErrShort
	case end > 0 && b[end] == 0:
		return api.ErrForm
	}
	return api.OK
}

// checkOneWay holds Get of bytes against the rule, and what it read against what is written of that.
func checkOneWay(t *testing.T, b []byte) {
	t.Helper()
	n, size, e := Get(b)
	if want := answer(b); e != want {
		t.Errorf("Get(%x): error %d, want %d", b, e, want)
	}
	if e != api.OK {
		if n != 0 || size != 0 {
			t.Errorf("Get(%x) = %d, %d beside error %d", b, n, size, e)
		}
		return
	}
	if size < 1 || size > len(b) || !bytes.Equal(Put(nil, n), b[:size]) {
		t.Errorf("Get(%x) = %d, %d, which has the bytes %x", b, n, size, Put(nil, n))
	}
}

func TestOneWayOfShortBytes(t *testing.T) {
	checkOneWay(t, nil)
	for i := range 256 {
		checkOneWay(t, []byte{byte(i)})
		for j := range 256 {
			checkOneWay(t, []byte{byte(i), byte(j)})
			checkOneWay(t, []byte{0x80, byte(i), byte(j)})
		}
	}
}

func TestOneWayOfLongBytes(t *testing.T) {
	tails := []string{"", "\x00", "\x01", "\xff", nine}
	for size := range 14 {
		for _, fill := range []byte{0x80, 0x81, 0xaa, 0xff} {
			front := bytes.Repeat([]byte{fill}, size)
			for c := range 256 {
				for _, tail := range tails {
					checkOneWay(t, append(append(slices.Clone(front), byte(c)), tail...))
				}
			}
		}
	}
}

func TestEachNumberHasItsOwnBytes(t *testing.T) {
	seen := map[string]uint64{}
	for n := range uint64(70000) {
		b := Put(nil, n)
		if other, ok := seen[string(b)]; ok {
			t.Fatalf("%d and %d have the same bytes %x", other, n, b)
		}
		seen[string(b)] = n
		if x, size, e := Get(b); x != n || size != len(b) || size != Size(n) || e != api.OK {
			t.Fatalf("Get(Put(nil, %d)) = %d, %d, %d", n, x, size, e)
		}
	}
}

func TestFold(t *testing.T) {
	for _, c := range []struct {
		x int64
		n uint64
	}{
		{0, 0},
		{-1, 1},
		{1, 2},
		{-2, 3},
		{2, 4},
		{-3, 5},
		{math.MaxInt64 - 1, math.MaxUint64 - 3},
		{math.MinInt64 + 1, math.MaxUint64 - 2},
		{math.MaxInt64, math.MaxUint64 - 1},
		{math.MinInt64, math.MaxUint64},
	} {
		if n := Fold(c.x); n != c.n {
			t.Errorf("Fold(%d) = %d, want %d", c.x, n, c.n)
		}
		if x := Unfold(c.n); x != c.x {
			t.Errorf("Unfold(%d) = %d, want %d", c.n, x, c.x)
		}
	}
}

func TestFoldThereAndBack(t *testing.T) {
	for _, n := range edges() {
		if back := Fold(Unfold(n)); back != n {
			t.Errorf("Fold(Unfold(%d)) = %d", n, back)
		}
		if x := int64(n); Unfold(Fold(x)) != x {
			t.Errorf("Unfold(Fold(%d)) = %d", x, Unfold(Fold(x)))
		}
	}
	for n := range uint64(70000) {
		if back := Fold(Unfold(n)); back != n {
			t.Fatalf("Fold(Unfold(%d)) = %d", n, back)
		}
	}
}

// The groups must come the same each time that they are ranged over, and end when nobody wants more.
func TestRangedTwiceAndLeft(t *testing.T) {
	seq := written(300)
	for range 2 {
		if b := slices.Collect(seq); !bytes.Equal(b, []byte{172, 2}) {
			t.Errorf("the bytes of 300 came as %x", b)
		}
	}
	for c := range seq {
		if c != 172 {
			t.Errorf("the first byte of 300 came as %d", c)
		}
		break
	}
	for shift, group := range groups([]byte{172, 2}) {
		if shift != 0 || group != 44 {
			t.Errorf("the first group of 300 came as %d, %d", shift, group)
		}
		break
	}
}
