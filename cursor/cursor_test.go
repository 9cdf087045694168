package cursor

import (
	"bytes"
	"encoding/binary"
	"fmt"
	"math"
	"slices"
	"strings"
	"testing"

	"tachograph/api"
	"tachograph/blob"
	"tachograph/wire"
)

// nine are nine bytes none of which can be a number's last one.
const nine = "\xff\xff\xff\xff\xff\xff\xff\xff\xff"

// check holds a cursor's place, what is left and its error against what they should be.
func check(t *testing.T, c *Cursor, at, left int, e api.Errno) {
	t.Helper()
	if c.At() != at || c.Left() != left || c.Err() != e {
		t.Errorf("at %d, %d left, error %d; want %d, %d, %d", c.At(), c.Left(), c.Err(), at, left, e)
	}
}

// checkStopped holds against each other what a stopped cursor answers and that no call moves it or changes why.
func checkStopped(t *testing.T, c *Cursor, at, left int, e api.Errno) {
	t.Helper()
	check(t, c, at, left, e)
	for range 2 {
		if x := c.Byte(); x != 0 {
			t.Errorf("stopped: Byte() = %d", x)
		}
		check(t, c, at, left, e)
		for _, most := range []uint64{0, 1, math.MaxUint64} {
			if n := c.Number(most); n != 0 {
				t.Errorf("stopped: Number(%d) = %d", most, n)
			}
			check(t, c, at, left, e)
		}
		if x := c.Signed(); x != 0 {
			t.Errorf("stopped: Signed() = %d", x)
		}
		check(t, c, at, left, e)
		for _, most := range []int{math.MinInt, -1, 0, 1, math.MaxInt} {
			if s := c.Text(most); s != "" {
				t.Errorf("stopped: Text(%d) = %q", most, s)
			}
			check(t, c, at, left, e)
		}
		if c.Done() {
			t.Error("stopped: Done() is true")
		}
		check(t, c, at, left, e)
		for _, other := range []api.Errno{api.OK, api.ErrArg, api.ErrNone, e, -1, 99} {
			c.Stop(other)
			check(t, c, at, left, e)
		}
	}
}

func TestExample(t *testing.T) {
	c := New([]byte{5, 1, 97})
	check(t, c, 0, 3, api.OK)
	if x := c.Byte(); x != 5 {
		t.Errorf("Byte() = %d", x)
	}
	check(t, c, 1, 2, api.OK)
	if s := c.Text(3); s != "a" {
		t.Errorf("Text(3) = %q", s)
	}
	check(t, c, 3, 0, api.OK)
	if !c.Done() || !c.Done() {
		t.Error("Done() is false at the end")
	}
	check(t, c, 3, 0, api.OK)
}

func TestNoBytes(t *testing.T) {
	for _, b := range [][]byte{nil, {}, make([]byte, 0, 5)} {
		c := New(b)
		if !c.Done() || !c.Done() {
			t.Error("Done() of no bytes is false")
		}
		check(t, c, 0, 0, api.OK)
		for name, call := range calls(math.MaxUint64, math.MaxInt) {
			c := New(b)
			if got := call(c); got != "" {
				t.Errorf("%s of no bytes = %s", name, got)
			}
			checkStopped(t, c, 0, 0, api.ErrShort)
		}
	}
}

// calls are those that take a thing, each answering what it took, or nothing, if that is the zero value.
func calls(number uint64, text int) map[string]func(*Cursor) string {
	tell := func(zero bool, x any) string {
		if zero {
			return ""
		}
		return fmt.Sprint(x)
	}
	return map[string]func(*Cursor) string{
		"Byte":   func(c *Cursor) string { x := c.Byte(); return tell(x == 0, x) },
		"Number": func(c *Cursor) string { n := c.Number(number); return tell(n == 0, n) },
		"Signed": func(c *Cursor) string { x := c.Signed(); return tell(x == 0, x) },
		"Text":   func(c *Cursor) string { return c.Text(text) },
	}
}

func TestByte(t *testing.T) {
	b := make([]byte, 256)
	for i := range b {
		b[i] = byte(255 - i)
	}
	c := New(b)
	for i, want := range b {
		if x := c.Byte(); x != want {
			t.Errorf("Byte() at %d = %d, want %d", i, x, want)
		}
		check(t, c, i+1, 255-i, api.OK)
	}
	if x := c.Byte(); x != 0 {
		t.Errorf("Byte() at the end = %d", x)
	}
	checkStopped(t, c, 256, 0, api.ErrShort)
}

// edges are the numbers at which the count of bytes or the sign's place changes, and their neighbours.
func edges() []uint64 {
	l := []uint64{0, 1, 2, 300, math.MaxUint64}
	for shift := range 64 {
		n := uint64(1) << shift
		l = append(l, n-1, n, n+1)
	}
	return l
}

func TestNumber(t *testing.T) {
	for _, n := range edges() {
		front := binary.AppendUvarint(nil, n)
		for _, behind := range []string{"", "\x00", "\x80", nine + nine} {
			b := append(slices.Clone(front), behind...)
			for _, most := range []uint64{n, max(n, n+1), math.MaxUint64} {
				c := New(b)
				if got := c.Number(most); got != n {
					t.Errorf("Number(%d) = %d, want %d", most, got, n)
				}
				check(t, c, len(front), len(behind), api.OK)
			}
			if n == 0 {
				continue
			}
			for _, most := range []uint64{0, n / 2, n - 1} {
				c := New(b)
				if got := c.Number(most); got != 0 {
					t.Errorf("Number(%d) = %d, want ErrLimit", most, got)
				}
				checkStopped(t, c, 0, len(b), api.ErrLimit)
			}
		}
	}
}

func TestSigned(t *testing.T) {
	for _, n := range edges() {
		for _, x := range []int64{int64(n), -int64(n), wire.Unfold(n)} {
			front := binary.AppendVarint(nil, x)
			for _, behind := range []string{"", "\x00", nine + nine} {
				c := New(append(slices.Clone(front), behind...))
				if got := c.Signed(); got != x {
					t.Errorf("Signed() = %d, want %d", got, x)
				}
				check(t, c, len(front), len(behind), api.OK)
			}
		}
	}
}

// No number has these bytes, and layer 1 says why; with bytes ahead the cursor stays behind them.
func TestNoNumber(t *testing.T) {
	for _, x := range []struct {
		b    string
		want api.Errno
	}{
		{"", api.ErrShort},
		{"\x80", api.ErrShort},
		{nine, api.ErrShort},
		{"\x80\x00", api.ErrForm},
		{"\xff\x80\x00", api.ErrForm},
		{nine + "\x00", api.ErrForm},
		{nine + "\x02", api.ErrLong},
		{nine + "\x80", api.ErrLong},
		{nine + nine, api.ErrLong},
	} {
		for _, ahead := range []string{"", "\x07", "\x07\x80"} {
			for name, call := range calls(0, -1) {
				if name == "Byte" {
					continue
				}
				c := New([]byte(ahead + x.b))
				for range ahead {
					c.Byte()
				}
				if got := call(c); got != "" {
					t.Errorf("%s of %x = %s", name, x.b, got)
				}
				checkStopped(t, c, len(ahead), len(x.b), x.want)
			}
		}
	}
}

func TestText(t *testing.T) {
	for _, size := range []int{0, 1, 2, 127, 128, 200, 300, 16384} {
		s := strings.Repeat("\x00a\x80\xff", size/4+1)[:size]
		front := string(binary.AppendUvarint(nil, uint64(size))) + s
		for _, behind := range []string{"", "\x00", "\x80"} {
			for _, most := range []int{math.MinInt, -1, 0, 1, size - 1, size, size + 1, math.MaxInt} {
				c := New([]byte(front + behind))
				got := c.Text(most)
				if size > max(most, 0) {
					if got != "" {
						t.Errorf("Text(%d) has %d bytes, want ErrLimit", most, len(got))
					}
					checkStopped(t, c, 0, len(front+behind), api.ErrLimit)
					continue
				}
				if got != s {
					t.Errorf("Text(%d) has %d bytes, want %d", most, len(got), size)
				}
				check(t, c, len(front), len(behind), api.OK)
			}
		}
	}
}

func TestNoText(t *testing.T) {
	for _, x := range []struct {
		b    string
		most int
		want api.Errno
	}{
		{"\x01", 1, api.ErrShort},
		{"\x02a", 2, api.ErrShort},
		{"\x02a", 1, api.ErrLimit},
		{"\x01a", 0, api.ErrLimit},
		{"\x01a", -5, api.ErrLimit},
		{"\x01a", math.MinInt, api.ErrLimit},
		{nine + "\x01", math.MaxInt, api.ErrLimit},
		{nine[:8] + "\x7f", math.MaxInt, api.ErrShort},
	} {
		c := New([]byte("\x00" + x.b))
		c.Byte()
		if s := c.Text(x.most); s != "" {
			t.Errorf("Text(%d) of %x = %q", x.most, x.b, s)
		}
		checkStopped(t, c, 1, len(x.b), x.want)
	}
}

func TestDone(t *testing.T) {
	b := []byte{9, 9, 9}
	for taken := range 3 {
		c := New(b)
		for range taken {
			c.Byte()
		}
		if c.Done() {
			t.Errorf("Done() with %d of 3 bytes taken is true", taken)
		}
		checkStopped(t, c, taken, 3-taken, api.ErrForm)
	}
	c := New(b)
	for range b {
		c.Byte()
	}
	if !c.Done() {
		t.Error("Done() at the end is false")
	}
	check(t, c, 3, 0, api.OK)
	c.Stop(api.ErrSum)
	if c.Done() {
		t.Error("Done() at the end, behind a stop, is true")
	}
	checkStopped(t, c, 3, 0, api.ErrSum)
}

func TestStop(t *testing.T) {
	for _, e := range []api.Errno{api.ErrArg, api.ErrShort, api.ErrLong, api.ErrForm, api.ErrSum, api.ErrLimit, api.ErrType, api.ErrOrder, api.ErrName, api.ErrNone, -1, 11, math.MaxInt, math.MinInt} {
		for taken := range 4 {
			c := New([]byte{1, 2, 3})
			for range taken {
				c.Stop(api.OK)
				check(t, c, c.At(), c.Left(), api.OK)
				c.Byte()
			}
			c.Stop(api.OK)
			check(t, c, taken, 3-taken, api.OK)
			c.Stop(e)
			checkStopped(t, c, taken, 3-taken, e)
		}
	}
}

func TestKeepsNothingThatIsHandedIn(t *testing.T) {
	b := []byte("\x07\x2c\x05\x02ab\x01c")
	before := slices.Clone(b)
	c, other := New(b), New(b)
	if c.Byte() != 7 {
		t.Error("the first byte isn't 7")
	}
	for i := range b {
		b[i] = 0xff
	}
	if c.Number(44) != 44 || c.Signed() != -3 || c.Text(2) != "ab" || c.Text(1) != "c" || !c.Done() {
		t.Errorf("what is taken changed with what was handed in: at %d, error %d", c.At(), c.Err())
	}
	for i, want := range before {
		if x := other.Byte(); x != want {
			t.Errorf("byte %d is %d, want %d", i, x, want)
		}
	}
}

func TestLeavesWhatIsHandedIn(t *testing.T) {
	whole := []byte("\x07\x02ab\x05zzzz")
	before := slices.Clone(whole)
	c := New(whole[:5])
	c.Byte()
	c.Text(2)
	c.Number(math.MaxUint64)
	if !c.Done() {
		t.Errorf("not at the end of what was handed in: at %d, error %d", c.At(), c.Err())
	}
	c.Byte()
	checkStopped(t, c, 5, 0, api.ErrShort)
	if !bytes.Equal(whole, before) {
		t.Errorf("what was handed in changed: %x", whole)
	}
}

// Two cursors on the same bytes have their own places and errors.
func TestCursorsAreApart(t *testing.T) {
	b := []byte{1, 2, 3}
	one, two := New(b), New(b)
	one.Byte()
	one.Stop(api.ErrSum)
	check(t, two, 0, 3, api.OK)
	if two.Byte() != 1 || two.Byte() != 2 {
		t.Error("the other cursor's bytes aren't its own")
	}
	check(t, one, 1, 2, api.ErrSum)
}

// model is what the chapter says of a cursor, as plain fields that steps work on.
type model struct {
	b   []byte
	at  int
	why api.Errno
}

// took is what a call answers that reads size bytes, or e: the model goes on, or stops.
func (m *model) took(x any, zero any, size int, e api.Errno) any {
	switch {
	case m.why != api.OK:
		return zero
	case e != api.OK:
		m.why = e
		return zero
	}
	m.at += size
	return x
}

// step is one call of a cursor, and what it should answer.
type step struct {
	name string
	call func(c *Cursor) any
	want func(m *model) any
}

func number(most uint64) step {
	return step{
		fmt.Sprintf("Number(%d)", most),
		func(c *Cursor) any { return c.Number(most) },
		func(m *model) any {
			n, size, e := wire.Get(m.b[m.at:])
			if e == api.OK && n > most {
				e = api.ErrLimit
			}
			return m.took(n, uint64(0), size, e)
		},
	}
}

func text(most int) step {
	return step{
		fmt.Sprintf("Text(%d)", most),
		func(c *Cursor) any { return c.Text(most) },
		func(m *model) any {
			s, size, e := blob.Get(m.b[m.at:], most)
			return m.took(s, "", size, e)
		},
	}
}

func stop(e api.Errno) step {
	return step{
		fmt.Sprintf("Stop(%d)", e),
		func(c *Cursor) any { c.Stop(e); return nil },
		func(m *model) any { m.took(nil, nil, 0, e); return nil },
	}
}

func steps() []step {
	return []step{
		{"Byte", func(c *Cursor) any { return c.Byte() }, func(m *model) any {
			if m.at == len(m.b) {
				return m.took(nil, byte(0), 0, api.ErrShort)
			}
			return m.took(m.b[m.at], byte(0), 1, api.OK)
		}},
		{"Signed", func(c *Cursor) any { return c.Signed() }, func(m *model) any {
			n, size, e := wire.Get(m.b[m.at:])
			return m.took(wire.Unfold(n), int64(0), size, e)
		}},
		{"Done", func(c *Cursor) any { return c.Done() }, func(m *model) any {
			if m.at == len(m.b) {
				return m.took(true, false, 0, api.OK)
			}
			return m.took(nil, false, 0, api.ErrForm)
		}},
		number(0), number(2), number(math.MaxUint64),
		text(-1), text(1), text(math.MaxInt),
		stop(api.OK), stop(api.ErrArg), stop(api.ErrNone),
	}
}

// checkOrder takes steps one behind the other, and holds each answer, and the cursor behind it, against the model.
func checkOrder(t *testing.T, b []byte, order []step) {
	t.Helper()
	c, m := New(b), &model{b: b}
	for i, s := range order {
		at, why := c.At(), c.Err()
		got, want := s.call(c), s.want(m)
		if got != want || c.At() != m.at || c.Left() != len(b)-m.at || c.Err() != m.why {
			t.Fatalf("of %x, call %d, %s: %v, at %d, %d left, error %d; want %v, at %d, error %d", b, i, s.name, got, c.At(), c.Left(), c.Err(), want, m.at, m.why)
		}
		if c.At() < at || c.At() > len(b) || why != api.OK && (c.At() != at || c.Err() != why) {
			t.Fatalf("of %x, call %d, %s: from %d to %d, error %d, then %d", b, i, s.name, at, c.At(), why, c.Err())
		}
	}
}

// orders hands on all orders of so many steps.
func orders(size int, use func([]step)) {
	all := steps()
	order := make([]step, size)
	var fill func(at int)
	fill = func(at int) {
		if at == size {
			use(order)
			return
		}
		for _, s := range all {
			order[at] = s
			fill(at + 1)
		}
	}
	fill(0)
}

func TestEveryOrder(t *testing.T) {
	for _, b := range []string{"", "\x00", "\x01", "\x80", "\x01a", "\x00\x01a\x02", "\x01\x01a", "\x02ab\x01c", "\x03\x80\x00", "\x00\x00\x80", nine + "\x01\x01", "\x02" + nine + "\x02", "\x01a\x02b"} {
		orders(4, func(order []step) { checkOrder(t, []byte(b), order) })
	}
}

// All bytes up to four of those few that tell most, under all orders of two calls and then one of each kind.
func TestFewBytesInOrder(t *testing.T) {
	few := []byte{0, 1, 2, 0x80, 0xff}
	all := [][]byte{nil}
	for from := 0; len(all[from]) < 4; from++ {
		for _, c := range few {
			all = append(all, append(slices.Clone(all[from]), c))
		}
	}
	for _, b := range all {
		orders(2, func(order []step) { checkOrder(t, b, append(slices.Clone(order), steps()...)) })
	}
}

// A long run to the end and beyond: the calls follow a fixed pattern, and so do the bytes.
func TestLongRun(t *testing.T) {
	takers := []step{steps()[0], steps()[1], number(math.MaxUint64), text(math.MaxInt)}
	for seed := range 40 {
		var b []byte
		var order []step
		for i := range 60 {
			k := (i*i + seed*7 + i*seed) % len(takers)
			order = append(order, takers[k], stop(api.OK))
			switch k {
			case 0:
				b = append(b, byte(i*37+seed))
			case 3:
				b = blob.Put(b, strings.Repeat("x", (i*seed)%140))
			default:
				b = wire.Put(b, uint64(i+1)<<((i+seed)%64))
			}
		}
		c, m := New(b), &model{b: b}
		for _, s := range order {
			if got, want := s.call(c), s.want(m); got != want {
				t.Fatalf("run %d: %s = %v, want %v", seed, s.name, got, want)
			}
		}
		if !c.Done() {
			t.Fatalf("run %d: at %d of %d, error %d", seed, c.At(), len(b), c.Err())
		}
		checkOrder(t, b, append(order, steps()...))
	}
}
