package unblock

import (
	"encoding/binary"
	"fmt"
	"math"
	"slices"
	"strings"
	"testing"

	"tachograph/api"
	"tachograph/block"
	signature "tachograph/sig"
)

// pred is a predicate of a name and arguments' types.
func pred(name string, args ...int) api.Pred {
	return api.Pred{Name: name, Args: args}
}

// num and text are arguments of the two types.
func num(n int64) api.Arg { return api.Arg{Type: 1, N: n} }

func text(s string) api.Arg { return api.Arg{Type: 2, S: s} }

// ev is an event of a predicate's number and arguments.
func ev(p int, args ...api.Arg) api.Event {
	return api.Event{Pred: p, Args: args}
}

// at is a point of a time and events.
func at(time uint64, events ...api.Event) api.Point {
	return api.Point{At: time, Events: events}
}

// long is a text of some size.
func long(size int) string { return strings.Repeat("x", size) }

// few is a signature of predicates with none, one and more arguments.
func few() []api.Pred {
	return []api.Pred{pred("q"), pred("p", 1), pred("s", 2), pred("b", 2, 1, 2), pred("i", 1, 1, 1, 1, 1, 1, 1, 1), pred("t", 2, 2, 2, 2, 2, 2, 2, 2)}
}

// most is a signature of as many predicates as there may be, each with an Int.
func most() []api.Pred {
	var l []api.Pred
	for i := range 64 {
		l = append(l, pred(fmt.Sprint("p", i), 1))
	}
	return l
}

// number are a number's bytes, by the library.
func number[N int | uint64](n N) string { return string(binary.AppendUvarint(nil, uint64(n))) }

// folded are the bytes of a whole number's folded one, by the library.
func folded(n int64) string { return string(binary.AppendVarint(nil, n)) }

// textBytes are a text's bytes.
func textBytes(s string) string { return number(len(s)) + s }

// dictionary are the bytes of how many texts there are, and of these.
func dictionary(texts []string) string {
	b := number(len(texts))
	for _, s := range texts {
		b += textBytes(s)
	}
	return b
}

// textsOf are the texts of points, each where it came first, by a list that is gone through.
func textsOf(t []api.Point) []string {
	var texts []string
	for _, p := range t {
		for _, e := range p.Events {
			for _, a := range e.Args {
				if a.Type == 2 && !slices.Contains(texts, a.S) {
					texts = append(texts, a.S)
				}
			}
		}
	}
	return texts
}

// partsWith are the numbers and texts, each as bytes, of a payload that has texts in an order that need not be the points'.
func partsWith(t []api.Point, texts []string) []string {
	parts := []string{number(t[0].At), number(len(t)), number(len(texts))}
	for _, s := range texts {
		parts = append(parts, textBytes(s))
	}
	for i, p := range t {
		if i > 0 {
			parts = append(parts, number(p.At-t[i-1].At))
		}
		parts = append(parts, number(len(p.Events)))
		for _, e := range p.Events {
			parts = append(parts, number(e.Pred))
			for _, a := range e.Args {
				if a.Type == 1 {
					parts = append(parts, folded(a.N))
				} else {
					parts = append(parts, number(slices.Index(texts, a.S)))
				}
			}
		}
	}
	return parts
}

// payloadWith is a payload of points that has texts in such an order.
func payloadWith(t []api.Point, texts []string) string {
	return strings.Join(partsWith(t, texts), "")
}

// payloadOf is chapter 14's payload of points that may be.
func payloadOf(t []api.Point) string {
	return payloadWith(t, textsOf(t))
}

// told are points, so that no two that aren't the same are told alike.
func told(t []api.Point) string {
	var b strings.Builder
	for _, p := range t {
		fmt.Fprintf(&b, "@%d", p.At)
		for _, e := range p.Events {
			fmt.Fprintf(&b, " %d(", e.Pred)
			for _, a := range e.Args {
				fmt.Fprintf(&b, "[%d %d %+q]", a.Type, a.N, a.S)
			}
			b.WriteString(")")
		}
		b.WriteString(";")
	}
	return b.String()
}

// brief is the front of what is told, so that a failure can be read.
func brief(s string) string { return s[:min(len(s), 200)] }

// model reads a list of bytes from the front, as the chapter says it: what is read is cut off, and behind the first error nothing is done any more.
type model struct {
	rest string
	e    api.Errno
}

// fail keeps the first error.
func (m *model) fail(e api.Errno) {
	if m.e == api.OK {
		m.e = e
	}
}

// number is the next number, which is at most most, else over is the error.
func (m *model) number(most uint64, over api.Errno) uint64 {
	if m.e != api.OK {
		return 0
	}
	n, size := binary.Uvarint([]byte(m.rest[:min(len(m.rest), 10)]))
	switch {
	case size < 0 || size == 0 && len(m.rest) >= 10:
		m.fail(api.ErrLong)
	case size == 0:
		m.fail(api.ErrShort)
	case size != len(number(n)):
		m.fail(api.ErrForm)
	case n > most:
		m.fail(over)
	default:
		m.rest = m.rest[size:]
		return n
	}
	return 0
}

// text is the next text.
func (m *model) text() string {
	size := int(m.number(200, api.ErrLimit))
	if len(m.rest) < size {
		m.fail(api.ErrShort)
	}
	if m.e != api.OK {
		return ""
	}
	s := m.rest[:size]
	m.rest = m.rest[size:]
	return s
}

// arg is the next argument, of a type.
func (m *model) arg(typ int, texts []string) api.Arg {
	if typ == 1 {
		n := m.number(math.MaxUint64, api.ErrLimit)
		return num(int64(n>>1) ^ -int64(n&1))
	}
	if len(texts) == 0 {
		m.number(math.MaxUint64, api.OK)
		m.fail(api.ErrNone)
	}
	i := m.number(uint64(len(texts)-1), api.ErrNone)
	if m.e != api.OK {
		return api.Arg{}
	}
	return text(texts[i])
}

// event is the next event.
func (m *model) event(l []api.Pred, texts []string) api.Event {
	if len(l) == 0 {
		m.number(math.MaxUint64, api.OK)
		m.fail(api.ErrName)
	}
	p := m.number(uint64(len(l)-1), api.ErrName)
	e := ev(int(p))
	for m.e == api.OK && len(e.Args) < len(l[p].Args) {
		e.Args = append(e.Args, m.arg(l[p].Args[len(e.Args)], texts))
	}
	return e
}

// point is the next point, whose time is so much above another one as the next number says, if there is one ahead.
func (m *model) point(l []api.Pred, texts []string, time uint64) api.Point {
	p := at(time)
	events := m.number(1024, api.ErrLimit)
	for m.e == api.OK && uint64(len(p.Events)) < events {
		p.Events = append(p.Events, m.event(l, texts))
	}
	return p
}

// points are all the points.
func (m *model) points(l []api.Pred) []api.Point {
	time := m.number(math.MaxUint64, api.ErrLimit)
	count := m.number(1024, api.ErrLimit)
	if count == 0 {
		m.fail(api.ErrForm)
	}
	var texts []string
	size := m.number(4096, api.ErrLimit)
	for m.e == api.OK && uint64(len(texts)) < size {
		texts = append(texts, m.text())
	}
	var t []api.Point
	for m.e == api.OK && uint64(len(t)) < count {
		if len(t) > 0 {
			time += m.number(math.MaxUint64-time, api.ErrOrder)
		}
		t = append(t, m.point(l, texts, time))
	}
	return t
}

// modelGet is the chapter's Get.
func modelGet(l []api.Pred, payload string) ([]api.Point, api.Errno) {
	m := model{rest: payload, e: signature.Check(l)}
	t := m.points(l)
	if len(m.rest) > 0 {
		m.fail(api.ErrForm)
	}
	if len(payload) > 4096 {
		m.fail(api.ErrLimit)
	}
	if m.e == api.OK && payloadOf(t) != payload {
		m.fail(api.ErrForm)
	}
	if m.e != api.OK {
		return nil, m.e
	}
	return t, api.OK
}

// checkBase holds Base of any bytes: whatever Get says, the first time is what the first number is.
func checkBase(t *testing.T, payload string) {
	t.Helper()
	m := model{rest: payload}
	want := m.number(math.MaxUint64, api.OK)
	if n, e := Base([]byte(payload)); n != want || e != m.e {
		t.Errorf("Base(%q) = %d, %d, want %d, %d", brief(payload), n, e, want, m.e)
	}
}

// checkGet holds a payload that is of points, there and back.
func checkGet(t *testing.T, l []api.Pred, payload string, want []api.Point) {
	t.Helper()
	points, e := Get(l, []byte(payload))
	if told(points) != told(want) || e != api.OK {
		t.Errorf("Get(%q) = %s, %d, want %s", brief(payload), brief(told(points)), e, brief(told(want)))
	}
	if b, e := block.Put(l, want); string(b) != payload || e != api.OK {
		t.Errorf("of %s the payload is %q, %d, want %q", brief(told(want)), brief(string(b)), e, brief(payload))
	}
	checkBase(t, payload)
	if n, e := Base([]byte(payload)); n != want[0].At || e != api.OK {
		t.Errorf("Base(%q) = %d, %d, want %d", brief(payload), n, e, want[0].At)
	}
}

// checkPoints holds the payload of points that may be.
func checkPoints(t *testing.T, l []api.Pred, points []api.Point) {
	t.Helper()
	checkGet(t, l, payloadOf(points), points)
}

// checkWrong holds a payload that is of no points.
func checkWrong(t *testing.T, l []api.Pred, payload string, want api.Errno) {
	t.Helper()
	if points, e := Get(l, []byte(payload)); len(points) != 0 || e != want {
		t.Errorf("Get(%q) of %d bytes = %s, %d, want none, %d", brief(payload), len(payload), brief(told(points)), e, want)
	}
	checkBase(t, payload)
}

// checkModel holds any bytes against the model, and tells whether they are taken.
func checkModel(t *testing.T, l []api.Pred, payload string) bool {
	t.Helper()
	want, e := modelGet(l, payload)
	if e != api.OK {
		checkWrong(t, l, payload, e)
		return false
	}
	checkGet(t, l, payload, want)
	return true
}

func TestExample(t *testing.T) {
	checkGet(t, []api.Pred{pred("p", api.Int)}, string([]byte{5, 1, 0, 1, 0, 6}), []api.Point{at(5, ev(0, num(3)))})
}

// Payloads that were worked out by hand.
func TestKnownPayloads(t *testing.T) {
	for _, x := range []struct {
		payload string
		want    []api.Point
	}{
		{"\x00\x01\x00\x00", []api.Point{at(0)}},
		{"\x07\x01\x00\x00", []api.Point{at(7)}},
		{"\x00\x01\x00\x01\x00", []api.Point{at(0, ev(0))}},
		{"\x09\x01\x00\x03\x00\x00\x00", []api.Point{at(9, ev(0), ev(0), ev(0))}},
		{"\x01\x03\x00\x00\x00\x00\x03\x00", []api.Point{at(1), at(1), at(4)}},
		{"\xac\x02\x03\x00\x01\x01\x01\x00\x00\x80\x01\x02\x00\x01\x80\x01", []api.Point{at(300, ev(1, num(-1))), at(300), at(428, ev(0), ev(1, num(64)))}},
		{"\x02\x01\x01\x02ab\x01\x02\x00", []api.Point{at(2, ev(2, text("ab")))}},
		{"\x02\x01\x01\x00\x01\x02\x00", []api.Point{at(2, ev(2, text("")))}},
		{"\x02\x01\x00\x01\x01\x00", []api.Point{at(2, ev(1, num(0)))}},
		{"\x02\x01\x02\x01b\x01a\x03\x02\x00\x02\x01\x02\x00", []api.Point{at(2, ev(2, text("b")), ev(2, text("a")), ev(2, text("b")))}},
		{"\x02\x03\x02\x01b\x01a\x01\x02\x00\x00\x01\x02\x01\x01\x01\x02\x00", []api.Point{at(2, ev(2, text("b"))), at(2, ev(2, text("a"))), at(3, ev(2, text("b")))}},
		{"\x00\x01\x01\x01x\x01\x03\x00\x0a\x00", []api.Point{at(0, ev(3, text("x"), num(5), text("x")))}},
		{"\x00\x01\x03\x01x\x01y\x00\x02\x03\x00\x09\x01\x03\x01\x02\x02", []api.Point{at(0, ev(3, text("x"), num(-5), text("y")), ev(3, text("y"), num(1), text("")))}},
		{"\x00\x02\x03\x00\x01\x00\x02\x00\x00\x01\x03\x00\x00\x01\x00\x01\x03\x02\x00\x01", []api.Point{at(0, ev(3, text(""), num(0), text("\x00"))), at(0, ev(3, text("\x00\x00"), num(0), text("\x00")))}},
		{"\x01\x01\x00\x01\x04\x00\x02\x01\x04\x03\x06\x05\x08", []api.Point{at(1, ev(4, num(0), num(1), num(-1), num(2), num(-2), num(3), num(-3), num(4)))}},
		{"\x01\x01\x04\x01a\x01b\x01c\x01d\x01\x05\x00\x01\x00\x02\x01\x00\x03\x02", []api.Point{at(1, ev(5, text("a"), text("b"), text("a"), text("c"), text("b"), text("a"), text("d"), text("c")))}},
	} {
		checkGet(t, few(), x.payload, x.want)
		if want, e := modelGet(few(), x.payload); told(want) != told(x.want) || e != api.OK {
			t.Errorf("the model reads %q as %s, %d", x.payload, told(want), e)
		}
	}
}

// Wrong payloads that were worked out by hand.
func TestKnownWrongPayloads(t *testing.T) {
	for _, x := range []struct {
		payload string
		want    api.Errno
	}{
		{"", api.ErrShort}, {"\x05", api.ErrShort}, {"\x05\x01", api.ErrShort}, {"\x05\x01\x00", api.ErrShort}, {"\x05\x01\x00\x01", api.ErrShort}, {"\x05\x01\x00\x01\x01", api.ErrShort},
		{"\x05\x01\x01", api.ErrShort}, {"\x05\x01\x01\x01", api.ErrShort}, {"\x05\x02\x00\x00", api.ErrShort}, {"\x05\x02\x00\x00\x00", api.ErrShort},
		{"\x05\x00", api.ErrForm}, {"\x05\x00\x00", api.ErrForm}, {"\x05\x00\x81\x20", api.ErrForm}, {"\x05\x81\x08", api.ErrLimit},
		{"\x05\x01\x81\x20", api.ErrLimit}, {"\x05\x01\x01\xc9\x01", api.ErrLimit}, {"\x05\x01\x00\x81\x08", api.ErrLimit},
		{"\x05\x01\x00\x01\x06", api.ErrName}, {"\x05\x01\x00\x01\x02\x00", api.ErrNone}, {"\x05\x01\x01\x01a\x01\x02\x01", api.ErrNone},
		{"\x05\x01\x00\x00\x00", api.ErrForm}, {"\x05\x01\x00\x01\x00\x00", api.ErrForm}, {"\x05\x01\x00\x01\x01\x00\x00", api.ErrForm},
		{"\x05\x01\x01\x01a\x00", api.ErrForm}, {"\x05\x01\x02\x01a\x01a\x02\x02\x00\x02\x01", api.ErrForm}, {"\x05\x01\x02\x01a\x01b\x02\x02\x01\x02\x00", api.ErrForm},
		{"\xff\xff\xff\xff\xff\xff\xff\xff\xff\x01\x02\x00\x00\x01\x00", api.ErrOrder},
		{"\x80\x00\x01\x00\x00", api.ErrForm}, {"\xff\xff\xff\xff\xff\xff\xff\xff\xff\x02\x01\x00\x00", api.ErrLong},
	} {
		checkWrong(t, few(), x.payload, x.want)
		if want, e := modelGet(few(), x.payload); len(want) != 0 || e != x.want {
			t.Errorf("the model reads %q as %s, %d", x.payload, told(want), e)
		}
	}
}

// edges are the numbers at which a number takes a byte more, and those beside them.
func edges() []uint64 {
	all := []uint64{0, 1, 2, 3, 5, 63, 64, 65, 200, 255, 256, 300, 1 << 31, 1 << 32, 1<<63 - 1, 1 << 63, 1<<63 + 1, math.MaxUint64 - 1, math.MaxUint64}
	for bits := 7; bits < 64; bits += 7 {
		all = append(all, 1<<bits-2, 1<<bits-1, 1<<bits, 1<<bits+1)
	}
	return all
}

// The first time is as it stands, and Base is that.
func TestFirstTime(t *testing.T) {
	for _, time := range edges() {
		checkGet(t, nil, number(time)+"\x01\x00\x00", []api.Point{at(time)})
		checkGet(t, few(), number(time)+"\x03\x00\x01\x01\x02\x00\x00\x00\x00", []api.Point{at(time, ev(1, num(1))), at(time), at(time)})
	}
}

// Later times are above the one ahead, up to the greatest one there is; with more it is none.
func TestLaterTimes(t *testing.T) {
	for _, first := range append(edges(), 1000, 1<<40+77) {
		for _, more := range edges() {
			second := first + more
			if more > math.MaxUint64-first {
				checkWrong(t, nil, number(first)+"\x02\x00\x00"+number(more)+"\x00", api.ErrOrder)
				checkWrong(t, nil, number(first)+"\x02\x00\x00"+number(more), api.ErrOrder)
				checkWrong(t, nil, "\x00\x04\x00\x00"+number(first)+"\x00"+number(more)+"\x00\x00\x00", api.ErrOrder)
				checkWrong(t, nil, number(first)+"\x03\x00\x00"+number(more)+"\x81\x08", api.ErrOrder)
				continue
			}
			checkGet(t, nil, number(first)+"\x02\x00\x00"+number(more)+"\x00", []api.Point{at(first), at(second)})
			checkGet(t, nil, "\x00\x04\x00\x00"+number(first)+"\x00"+number(more)+"\x00\x00\x00", []api.Point{at(0), at(first), at(second), at(second)})
			checkGet(t, nil, number(first)+"\x04\x00\x00\x00\x00"+number(more)+"\x00"+number(math.MaxUint64-second)+"\x00", []api.Point{at(first), at(first), at(second), at(math.MaxUint64)})
			if second > 0 {
				checkWrong(t, nil, number(first)+"\x03\x00\x00"+number(more)+"\x00"+number(math.MaxUint64-second+1)+"\x00", api.ErrOrder)
			}
		}
	}
	checkGet(t, nil, "\x00\x02\x00\x00\xff\xff\xff\xff\xff\xff\xff\xff\xff\x01\x00", []api.Point{at(0), at(math.MaxUint64)})
	checkWrong(t, nil, "\x01\x02\x00\x00\xff\xff\xff\xff\xff\xff\xff\xff\xff\x01\x00", api.ErrOrder)
	checkGet(t, nil, "\xff\xff\xff\xff\xff\xff\xff\xff\xff\x01\x02\x00\x00\x00\x00", []api.Point{at(math.MaxUint64), at(math.MaxUint64)})
}

// A time that is too great is told at whichever point it is, and ahead of all that is behind it.
func TestTimesTooGreat(t *testing.T) {
	for _, ahead := range []int{1, 2, 500, 1022, 1023} {
		front := number(ahead) + number(ahead+1) + "\x00\x00" + strings.Repeat("\x01\x00", ahead-1)
		last := uint64(ahead + ahead - 1)
		points := []api.Point{}
		for i := range ahead {
			points = append(points, at(uint64(ahead+i)))
		}
		checkGet(t, few(), front+number(math.MaxUint64-last)+"\x00", append(points, at(math.MaxUint64)))
		for _, more := range []uint64{math.MaxUint64 - last + 1, math.MaxUint64 - 1, math.MaxUint64} {
			for _, behind := range []string{"", "\x00", "\x00\x00", "\x80", "\x81\x08", "\x01\x06", "\x01\x02\x00", strings.Repeat("\x00", 5000)} {
				if more > math.MaxUint64-last {
					checkWrong(t, few(), front+number(more)+behind, api.ErrOrder)
				}
			}
		}
	}
}

// As many points as there may be.
func TestHowManyPoints(t *testing.T) {
	for _, count := range []int{1, 2, 3, 63, 64, 126, 127, 128, 129, 255, 256, 257, 1000, 1022, 1023, 1024} {
		checkGet(t, nil, "\x00"+number(count)+"\x00\x00"+strings.Repeat("\x00\x00", count-1), make([]api.Point, count))
		checkGet(t, few(), "\xac\x02"+number(count)+"\x00\x01\x00"+strings.Repeat("\x00\x01\x00", count-1), slices.Repeat([]api.Point{at(300, ev(0))}, count))
		checkWrong(t, nil, "\x00"+number(count)+"\x00\x00"+strings.Repeat("\x00\x00", count), api.ErrForm)
		checkWrong(t, nil, "\x00"+number(count+1)+"\x00\x00"+strings.Repeat("\x00\x00", count-1), map[bool]api.Errno{false: api.ErrShort, true: api.ErrLimit}[count == 1024])
	}
	for _, count := range []int{1025, 1026, 2048, 1 << 16} {
		checkWrong(t, nil, "\x00"+number(count)+"\x00\x00"+strings.Repeat("\x00\x00", count-1), api.ErrLimit)
	}
}

// As many events of a point as there may be.
func TestHowManyEvents(t *testing.T) {
	for _, count := range []int{0, 1, 2, 63, 64, 126, 127, 128, 129, 255, 256, 257, 1000, 1023, 1024} {
		many := slices.Repeat([]api.Event{ev(0)}, count)
		checkGet(t, few(), "\x01\x01\x00"+number(count)+strings.Repeat("\x00", count), []api.Point{at(1, many...)})
		checkGet(t, few(), "\x01\x03\x00\x00\x01"+number(count)+strings.Repeat("\x00", count)+"\x00\x01\x00", []api.Point{at(1), at(2, many...), at(2, ev(0))})
		checkWrong(t, few(), "\x01\x01\x00"+number(count)+strings.Repeat("\x00", count+1), api.ErrForm)
		checkWrong(t, few(), "\x01\x01\x00"+number(count+1)+strings.Repeat("\x00", count), map[bool]api.Errno{false: api.ErrShort, true: api.ErrLimit}[count == 1024])
	}
	for _, count := range []int{1025, 1026, 2048, 1 << 16} {
		checkWrong(t, few(), "\x01\x01\x00"+number(count)+strings.Repeat("\x00", count), api.ErrLimit)
	}
}

// Each predicate's number that there may be, and one more.
func TestPreds(t *testing.T) {
	for i := range 64 {
		byte0 := string([]byte{byte(i)})
		checkGet(t, most(), "\x01\x01\x00\x01"+byte0+"\x03", []api.Point{at(1, ev(i, num(-2)))})
		checkGet(t, most(), "\x01\x02\x00\x00\x00\x03\x3f\x02"+byte0+"\x00\x00\x04", []api.Point{at(1), at(1, ev(63, num(1)), ev(i, num(0)), ev(0, num(2)))})
		checkWrong(t, most()[:i], "\x01\x01\x00\x01"+byte0+"\x03", api.ErrName)
		checkWrong(t, most()[:i], "\x01\x01\x00\x01"+byte0, api.ErrName)
		for _, n := range edges() {
			if n >= uint64(i) {
				checkWrong(t, most()[:i], "\x01\x01\x00\x01"+number(n), api.ErrName)
				checkWrong(t, most()[:i], "\x01\x01\x00\x01"+number(n)+"\x00", api.ErrName)
			}
		}
	}
	checkWrong(t, most(), "\x01\x01\x00\x01\x40\x03", api.ErrName)
}

// An Int is what its folded number says, by hand and by the library.
func TestInts(t *testing.T) {
	for _, x := range []struct {
		n int64
		b string
	}{
		{0, "\x00"}, {-1, "\x01"}, {1, "\x02"}, {-2, "\x03"}, {63, "\x7e"}, {-64, "\x7f"}, {64, "\x80\x01"}, {-65, "\x81\x01"}, {150, "\xac\x02"},
		{8191, "\xfe\x7f"}, {-8192, "\xff\x7f"}, {8192, "\x80\x80\x01"}, {-8193, "\x81\x80\x01"},
		{math.MaxInt64, "\xfe\xff\xff\xff\xff\xff\xff\xff\xff\x01"}, {math.MinInt64, "\xff\xff\xff\xff\xff\xff\xff\xff\xff\x01"},
	} {
		checkGet(t, few(), "\x01\x01\x00\x01\x01"+x.b, []api.Point{at(1, ev(1, num(x.n)))})
		checkGet(t, few(), "\x01\x01\x00\x01\x04"+x.b+"\x00"+x.b+"\x02"+x.b+x.b+"\x04"+x.b, []api.Point{at(1, ev(4, num(x.n), num(0), num(x.n), num(1), num(x.n), num(x.n), num(2), num(x.n)))})
	}
	for _, edge := range edges() {
		for _, n := range []int64{int64(edge), -int64(edge), int64(edge / 2), -int64(edge / 2), int64(edge/2) - 1, -int64(edge/2) - 1} {
			checkGet(t, few(), "\x01\x02\x00\x01\x01"+folded(n)+"\x00\x01\x01"+folded(n), []api.Point{at(1, ev(1, num(n))), at(1, ev(1, num(n)))})
		}
	}
}

// hardTexts are of any bytes, of all sizes, and such as may be taken for one another. No two are the same.
func hardTexts() []string {
	l := []string{"", "\x00\x00", "ab", "aB", "ab ", "ab\x00", "\x00ab", "é", "e\u0301", "\xc3", "\xff\xff", "\xff\xfe", "\ufffd", "\xed\xa0\x80", "\x02ab", "\x01\x01"}
	for b := range 256 {
		l = append(l, string([]byte{byte(b)}), string([]byte{'~', byte(b)}))
	}
	for size := 3; size <= 200; size++ {
		l = append(l, long(size))
	}
	slices.Sort(l)
	return slices.Compact(l)
}

// A Str is the text of its number, as it stands in the dictionary.
func TestTexts(t *testing.T) {
	for _, s := range hardTexts() {
		checkGet(t, few(), "\x01\x01\x01"+textBytes(s)+"\x01\x02\x00", []api.Point{at(1, ev(2, text(s)))})
		checkGet(t, few(), "\x01\x01\x02\x03~~!"+textBytes(s)+"\x02\x03\x00\x02\x01\x02\x01", []api.Point{at(1, ev(3, text("~~!"), num(1), text(s)), ev(2, text(s)))})
		checkGet(t, few(), "\x01\x03\x02"+textBytes(s)+"\x03~~!\x01\x03\x00\x02\x00\x00\x00\x01\x02\x02\x01\x02\x00", []api.Point{at(1, ev(3, text(s), num(1), text(s))), at(1), at(2, ev(2, text("~~!")), ev(2, text(s)))})
	}
	for size := 0; size <= 200; size++ {
		for _, c := range []string{"\x00", "a", "\xff"} {
			s := strings.Repeat(c, size)
			checkGet(t, few(), "\x01\x01\x01"+textBytes(s)+"\x01\x02\x00", []api.Point{at(1, ev(2, text(s)))})
		}
	}
	for _, size := range []int{201, 202, 256, 4096, 1 << 16} {
		checkWrong(t, few(), "\x01\x01\x01"+textBytes(long(size))+"\x01\x02\x00", api.ErrLimit)
		checkWrong(t, few(), "\x01\x01\x02\x01a"+textBytes(long(size))+"\x02\x02\x00\x02\x01", api.ErrLimit)
		checkWrong(t, few(), "\x01\x01\x01"+number(size), api.ErrLimit)
	}
}

// short are texts of few bytes, no two of which are the same.
func short(count int) []string {
	var l []string
	for i := range count {
		l = append(l, strings.TrimLeft(string([]byte{byte(i >> 14), byte(i >> 7 & 127), byte(i&127 + 128)}), "\x00"))
	}
	return l
}

// listed are points that have texts in order, one an event, so many events in each.
func listed(texts []string, each int) []api.Point {
	var points []api.Point
	for i, s := range texts {
		if i%each == 0 {
			points = append(points, at(9))
		}
		last := &points[len(points)-1]
		last.Events = append(last.Events, ev(2, text(s)))
	}
	return points
}

// As many texts as there are bytes for: how many there are, and their numbers, up to the last one and one more.
func TestHowManyTexts(t *testing.T) {
	for _, count := range []int{1, 2, 126, 127, 128, 129, 130, 200, 255, 256, 257, 400} {
		texts := short(count)
		front := "\x09\x01" + dictionary(texts) + number(count+2)
		for i := range texts {
			front += "\x02" + number(i)
		}
		points := listed(texts, count)
		points[0].Events = append(points[0].Events, ev(2, text(texts[0])), ev(2, text(texts[count-1])))
		checkGet(t, few(), front+"\x02\x00\x02"+number(count-1), points)
		for _, more := range []int{count, count + 1, count + 128, count + 256, 1<<32 + count - 1, 1 << 62} {
			checkWrong(t, few(), front+"\x02\x00\x02"+number(more), api.ErrNone)
			checkWrong(t, few(), front+"\x02"+number(more), api.ErrNone)
			checkWrong(t, few(), front+"\x02"+number(more)+"\x06", api.ErrNone)
		}
		for _, each := range []int{1, 3, 127, 128} {
			checkPoints(t, few(), listed(texts, each))
		}
	}
}

// More texts than a payload has room for: 4096 are read, and told as too many bytes; 4097 are too many as such.
func TestFarTooManyTexts(t *testing.T) {
	for _, count := range []int{4095, 4096} {
		texts := short(count)
		b := payloadOf(listed(texts, 1000))
		checkWrong(t, few(), b, api.ErrLimit)
		checkWrong(t, few(), b+"\x00", api.ErrForm)
		checkWrong(t, few(), b[:len(b)-1], api.ErrShort)
		checkWrong(t, few(), "\x09\x01"+dictionary(texts), api.ErrShort)
		checkWrong(t, few(), "\x09\x01"+dictionary(texts)+"\x01\x06", api.ErrName)
		checkWrong(t, few(), "\x09\x01"+dictionary(texts)+"\x01\x02"+number(count-1), api.ErrLimit)
		checkWrong(t, few(), "\x09\x01"+dictionary(texts)+"\x01\x02"+number(count), api.ErrNone)
		checkWrong(t, few(), "\x09\x01"+number(count), api.ErrShort)
		checkWrong(t, few(), "\x09\x01"+number(count)+strings.Repeat("\x00", count), api.ErrShort)
		checkWrong(t, few(), "\x09\x01"+number(count)+strings.Repeat("\x00", count)+"\x00", api.ErrLimit)
		checkWrong(t, few(), "\x09\x01"+number(count)+strings.Repeat("\x00", count-1)+"\xc9\x01", api.ErrLimit)
		checkWrong(t, few(), "\x09\x01"+number(count)+strings.Repeat("\x00", count-1)+"\x80\x00", api.ErrForm)
	}
	for _, count := range []int{4097, 4098, 1 << 16} {
		checkWrong(t, few(), payloadOf(listed(short(min(count, 5000)), 1000)), api.ErrLimit)
		checkWrong(t, few(), "\x09\x01"+number(count)+strings.Repeat("\x00", count)+"\x00\x00", api.ErrLimit)
		checkWrong(t, few(), "\x09\x01"+number(count)+"\x80\x00", api.ErrLimit)
		checkWrong(t, few(), "\x09\x01"+number(count), api.ErrLimit)
	}
}

// fault is what stands where a number should, and the error of it.
type fault struct {
	bytes string
	want  api.Errno
}

// cutNumbers are no number yet: the bytes end ahead of its last one.
func cutNumbers() []string {
	return []string{"", "\x80", "\xff", "\x81\x80", "\xff\xff\xff", strings.Repeat("\x80", 9), strings.Repeat("\xff", 9)}
}

// wrongNumbers are faults of any number, which stay whatever is behind.
func wrongNumbers() []fault {
	var all []fault
	for _, b := range []string{"\x80\x00", "\x81\x00", "\x82\x80\x00", "\xff\x00", "\xff\xff\x00", strings.Repeat("\x80", 9) + "\x00", strings.Repeat("\xff", 9) + "\x00"} {
		all = append(all, fault{b, api.ErrForm})
	}
	for _, b := range []string{strings.Repeat("\x80", 9) + "\x02", strings.Repeat("\xff", 9) + "\x7f", strings.Repeat("\x80", 10), strings.Repeat("\xff", 10), strings.Repeat("\x80", 10) + "\x00"} {
		all = append(all, fault{b, api.ErrLong})
	}
	return all
}

// place is where a number is to stand: what is ahead of it, and the error of one above the greatest that may stand there.
type place struct {
	name, ahead string
	most        uint64
	over        api.Errno
}

// faults are what may not stand at a place, whatever is behind.
func (p place) faults() []fault {
	all := wrongNumbers()
	for _, n := range append(edges(), 4096, 4097, p.most+1, p.most+2, p.most+256, p.most+1<<32) {
		if n > p.most {
			all = append(all, fault{number(n), p.over})
		}
	}
	return all
}

// places are of all sorts of numbers, of points of few: the first ones, later ones, and the last ones there may be.
func places() []place {
	const a = "\x05\x02\x01\x01a" // two points, the first at 5, and a text
	many := "\x05\x80\x08" + dictionary(short(129)) + strings.Repeat("\x00\x01", 1023)
	return []place{
		{"the first time", "", math.MaxUint64, api.OK},
		{"the points", "\x05", 1024, api.ErrLimit},
		{"the points, at the greatest time", number(uint64(math.MaxUint64)), 1024, api.ErrLimit},
		{"the texts", "\x05\x01", 4096, api.ErrLimit},
		{"the texts of many points", "\x05\x80\x08", 4096, api.ErrLimit},
		{"the first text", "\x05\x02\x03", 200, api.ErrLimit},
		{"the second text", "\x05\x02\x03\x01a", 200, api.ErrLimit},
		{"the last text", "\x05\x02\x03\x01a\x00", 200, api.ErrLimit},
		{"the last text of many", "\x05\x01\x80\x20" + strings.Repeat("\x00", 4095), 200, api.ErrLimit},
		{"the first point's events", a, 1024, api.ErrLimit},
		{"the last point's events", a + "\x00\x09", 1024, api.ErrLimit},
		{"the last point's events, of many", "\x05\x80\x08\x00" + strings.Repeat("\x00\x00", 1023), 1024, api.ErrLimit},
		{"a later time", a + "\x00", math.MaxUint64 - 5, api.ErrOrder},
		{"a later time, behind an event", a + "\x01\x02\x00", math.MaxUint64 - 5, api.ErrOrder},
		{"a later time, behind the greatest", number(uint64(math.MaxUint64)) + "\x02\x00\x00", 0, api.ErrOrder},
		{"the first predicate", a + "\x02", 5, api.ErrName},
		{"the second predicate", a + "\x02\x00", 5, api.ErrName},
		{"a later point's predicate", a + "\x02\x00\x01\x02\x07\x01", 5, api.ErrName},
		{"the last predicate of many", "\x05\x01\x00\x80\x08" + strings.Repeat("\x00", 1023), 5, api.ErrName},
		{"an Int alone", a + "\x01\x01", math.MaxUint64, api.OK},
		{"an Int between texts", a + "\x01\x03\x00", math.MaxUint64, api.OK},
		{"the last of many Ints", a + "\x01\x04\x00\x00\x00\x00\x00\x00\x00", math.MaxUint64, api.OK},
		{"a later point's Int", a + "\x01\x02\x00\x00\x02\x00\x01", math.MaxUint64, api.OK},
		{"a text's number", a + "\x01\x02", 0, api.ErrNone},
		{"a text's number ahead of an Int", a + "\x01\x03", 0, api.ErrNone},
		{"a text's number behind an Int", a + "\x01\x03\x00\x00", 0, api.ErrNone},
		{"the last of many texts' numbers", a + "\x01\x05\x00\x00\x00\x00\x00\x00\x00", 0, api.ErrNone},
		{"a text's number among three", "\x05\x01\x03\x01a\x01b\x01c\x03\x02\x00\x02", 2, api.ErrNone},
		{"a text's number among 129", many + "\x01\x02", 128, api.ErrNone},
	}
}

// behinds are some bytes that may stand behind: none, and such as are right and wrong of themselves.
func behinds() []string {
	return []string{"", "\x00", "\x80", "\x01", "\x01\x06", "\x01\x02\x7f", "\x81\x08", "\x80\x00", "\x00\x00\x00\x00", strings.Repeat("\x00", 300), strings.Repeat("\xff", 300), strings.Repeat("\x01", 5000)}
}

// Each fault of a number, wherever one is to stand.
func TestWrongNumbers(t *testing.T) {
	for _, p := range places() {
		for _, b := range cutNumbers() {
			checkWrong(t, few(), p.ahead+b, api.ErrShort)
		}
		for _, x := range p.faults() {
			for _, behind := range behinds() {
				checkWrong(t, few(), p.ahead+x.bytes+behind, x.want)
			}
		}
		if t.Failed() {
			t.Fatalf("of %s", p.name)
		}
	}
}

// What may stand there is gone by, up to the greatest: what is behind is asked for then.
func TestRightNumbers(t *testing.T) {
	for _, p := range places() {
		for _, n := range append(edges(), 1024, 4096, p.most, p.most/2) {
			if n > p.most || n == 0 {
				continue
			}
			for _, behind := range behinds() {
				checkModel(t, few(), p.ahead+number(n)+behind)
			}
		}
	}
	for _, x := range []struct {
		ahead string
		n     int
	}{{"\x05", 1024}, {"\x05\x01", 4096}, {"\x05\x01\x01", 200}, {"\x05\x01\x00", 1024}, {"\x05\x02\x00\x00\x00", 1024}, {"", 5}, {"\x05\x02\x00\x00", 5}} {
		checkWrong(t, few(), x.ahead+number(x.n), api.ErrShort)
	}
}

// No points: told ahead of all that is behind.
func TestNoPoints(t *testing.T) {
	for _, time := range edges() {
		for _, behind := range append(behinds(), "\x81\x20", "\x01\xc9\x01", "\xff\xff\xff\xff\xff\xff\xff\xff\xff\x01") {
			checkWrong(t, few(), number(time)+"\x00"+behind, api.ErrForm)
			checkWrong(t, nil, number(time)+"\x00"+behind, api.ErrForm)
		}
	}
}

// Where there are no predicates, and where there are no texts, each number is of none.
func TestNumbersOfNone(t *testing.T) {
	for _, n := range append(edges(), 4096) {
		for _, behind := range behinds() {
			checkWrong(t, nil, "\x05\x01\x00\x01"+number(n)+behind, api.ErrName)
			checkWrong(t, nil, "\x05\x01\x01\x01a\x01"+number(n)+behind, api.ErrName)
			checkWrong(t, few(), "\x05\x01\x00\x01\x02"+number(n)+behind, api.ErrNone)
			checkWrong(t, few(), "\x05\x01\x00\x02\x01\x00\x03"+number(n)+behind, api.ErrNone)
		}
	}
}

// A text that is cut off anywhere.
func TestTextsCutOff(t *testing.T) {
	for size := 1; size <= 200; size++ {
		b := textBytes(long(size))
		for cut := range len(b) {
			checkWrong(t, few(), "\x05\x01\x01"+b[:cut], api.ErrShort)
			checkWrong(t, few(), "\x05\x01\x03\x01a"+b[:cut], api.ErrShort)
		}
	}
}

// wrongSignatures may not be, and why.
func wrongSignatures() []struct {
	l    []api.Pred
	want api.Errno
} {
	return []struct {
		l    []api.Pred
		want api.Errno
	}{
		{make([]api.Pred, 65), api.ErrLimit},
		{append(most(), pred("more")), api.ErrLimit},
		{[]api.Pred{{}}, api.ErrName},
		{[]api.Pred{pred("9", 1)}, api.ErrName},
		{[]api.Pred{pred(long(33), 1)}, api.ErrName},
		{append(few(), pred("p", 1)), api.ErrName},
		{append(few(), pred("wide", 1, 1, 1, 1, 1, 1, 1, 1, 1)), api.ErrLimit},
		{append(few(), pred("strange", 3)), api.ErrType},
		{append(few(), pred("strange", 1, 0)), api.ErrType},
		{append(few(), pred("strange", -1)), api.ErrType},
	}
}

// A signature that may not be is told first, whatever the payload is.
func TestWrongSignatures(t *testing.T) {
	for _, x := range wrongSignatures() {
		for _, p := range places() {
			checkWrong(t, x.l, p.ahead, x.want)
			for _, f := range p.faults() {
				checkWrong(t, x.l, p.ahead+f.bytes, x.want)
			}
		}
		for _, b := range []string{"", "\x00\x01\x00\x00", "\x00\x01\x00\x00\x00", "\x05\x01\x00\x01\x00", "\x05\x01\x01\x01a\x00", payloadOf(listed(short(2000), 500))} {
			checkWrong(t, x.l, b, x.want)
		}
	}
}

// mixed are points of few of all sorts.
func mixed() []api.Point {
	return []api.Point{
		at(300, ev(3, text("ab"), num(-70), text("c")), ev(0), ev(2, text("c"))),
		at(300),
		at(301, ev(1, num(5)), ev(2, text("")), ev(5, text("c"), text("ab"), text(""), text("d"), text("d"), text("ab"), text("c"), text("c"))),
		at(500, ev(4, num(0), num(1), num(-1), num(64), num(-65), num(9), num(1<<40), num(math.MinInt64))),
	}
}

// Where two things are wrong, the one ahead is told, at all places there are in a payload.
func TestTwoFaults(t *testing.T) {
	parts := partsWith(mixed(), textsOf(mixed()))
	faults := []fault{{"\x80\x00", api.ErrForm}, {strings.Repeat("\xff", 10), api.ErrLong}}
	for i := range parts {
		for _, first := range faults {
			wrong := slices.Clone(parts)
			wrong[i] = first.bytes
			checkWrong(t, few(), strings.Join(wrong, ""), first.want)
			for k := i + 1; k < len(parts); k++ {
				for _, second := range faults {
					wrong := slices.Clone(wrong)
					wrong[k] = second.bytes
					checkWrong(t, few(), strings.Join(wrong, ""), first.want)
				}
				checkWrong(t, few(), strings.Join(wrong[:k], ""), first.want)
			}
			checkWrong(t, few(), strings.Join(wrong, "")+long(5000), first.want)
		}
	}
}

// Any number in place of each part of a payload, and of two of them.
func TestOtherNumbers(t *testing.T) {
	parts := partsWith(mixed(), textsOf(mixed()))
	others := []string{"", "\x00", "\x01", "\x02", "\x05", "\x06", "\x80\x01", "\xc9\x01", "\x81\x08", number(uint64(math.MaxUint64 - 300))}
	taken := 0
	for i := range parts {
		for k := i; k < len(parts); k++ {
			for _, one := range others {
				wrong := slices.Clone(parts)
				wrong[i] = one
				for _, other := range others {
					wrong[k] = other
					if checkModel(t, few(), strings.Join(wrong, "")) {
						taken++
					}
				}
			}
		}
	}
	if taken < 1000 {
		t.Errorf("only %d of them are taken", taken)
	}
}

// allBytes hands each row of up to so many of some bytes to a function.
func allBytes(of string, most int, each func(b string)) {
	row := make([]byte, 0, most)
	var grow func()
	grow = func() {
		each(string(row))
		if len(row) == most {
			return
		}
		for i := range len(of) {
			row = append(row, of[i])
			grow()
			row = row[:len(row)-1]
		}
	}
	grow()
}

// All payloads of small length over few bytes.
func TestAllSmallPayloads(t *testing.T) {
	signatures := [][]api.Pred{nil, {pred("q")}, {pred("p", 1)}, {pred("s", 2)}, {pred("q"), pred("b", 2, 1)}, {pred("s", 2), pred("r", 2, 2)}}
	for _, l := range signatures {
		for _, x := range []struct {
			of   string
			most int
		}{{"\x00\x01", 12}, {"\x00\x01\x02", 9}, {"\x00\x01\x02a\x80", 6}, {"\x00\x01\x80\x81\xff\x08", 5}} {
			taken, all := 0, 0
			allBytes(x.of, x.most, func(b string) {
				all++
				if checkModel(t, l, b) {
					taken++
				}
			})
			if t.Failed() || taken == 0 || taken == all {
				t.Fatalf("of %v, %q: %d of %d are taken", l, x.of, taken, all)
			}
		}
	}
}

// argLists are all lists of up to so many arguments' types.
func argLists(most int) [][]int {
	all := [][]int{nil}
	for i := 0; i < len(all); i++ {
		if len(all[i]) < most {
			all = append(all, append(slices.Clone(all[i]), 1), append(slices.Clone(all[i]), 2))
		}
	}
	return all
}

// smallSignatures are all signatures of up to two predicates, with up to two arguments each.
func smallSignatures() [][]api.Pred {
	all := [][]api.Pred{nil}
	for _, a := range argLists(2) {
		all = append(all, []api.Pred{pred("a", a...)})
		for _, b := range argLists(2) {
			all = append(all, []api.Pred{pred("a", a...), pred("b", b...)})
		}
	}
	return all
}

// smallEvents are all events of a signature with some arguments.
func smallEvents(l []api.Pred) []api.Event {
	var all []api.Event
	for i, p := range l {
		rows := [][]api.Arg{nil}
		for _, typ := range p.Args {
			values := []api.Arg{num(-1), num(64)}
			if typ == 2 {
				values = []api.Arg{text(""), text("a")}
			}
			var longer [][]api.Arg
			for _, row := range rows {
				for _, value := range values {
					longer = append(longer, append(slices.Clone(row), value))
				}
			}
			rows = longer
		}
		for _, row := range rows {
			all = append(all, ev(i, row...))
		}
	}
	return all
}

// lists are all lists of up to so many of some.
func lists[T any](of []T, most int) [][]T {
	all := [][]T{nil}
	for i := 0; i < len(all); i++ {
		if len(all[i]) < most {
			for _, x := range of {
				all = append(all, append(slices.Clone(all[i]), x))
			}
		}
	}
	return all
}

// All traces of up to two points, with up to two events in the first one and one in the second, of all small signatures.
func TestAllSmallSignatures(t *testing.T) {
	for _, l := range smallSignatures() {
		events := smallEvents(l)
		for _, first := range lists(events, 2) {
			checkPoints(t, l, []api.Point{at(127, first...)})
			for _, second := range lists(events, 1) {
				checkPoints(t, l, []api.Point{at(128, first...), at(128, second...)})
			}
		}
		if t.Failed() {
			t.Fatalf("of the signature %v", l)
		}
	}
}

// smallTraces are all traces of up to three points, in which times stay, go on by one byte or by two, of some lists of events.
func smallTraces() [][]api.Point {
	kinds := [][]api.Event{nil, {ev(0)}, {ev(2, text("a"))}, {ev(2, text("")), ev(0)}, {ev(3, text("b"), num(-1), text("b"))}, {ev(3, text("b"), num(64), text("a")), ev(2, text("b"))}}
	var steps []api.Point
	for _, more := range []uint64{0, 1, 128} {
		for _, events := range kinds {
			steps = append(steps, at(more, events...))
		}
	}
	var all [][]api.Point
	for _, row := range lists(steps, 3)[1:] {
		time := uint64(0)
		points := slices.Clone(row)
		for i := range points {
			time += points[i].At
			points[i].At = time
		}
		all = append(all, points)
	}
	return all
}

// All payloads of small traces, and some with a byte of theirs another one.
func TestAllSmallTraces(t *testing.T) {
	for i, points := range smallTraces() {
		checkPoints(t, few(), points)
		if i%5 == 0 {
			b := []byte(payloadOf(points))
			b[i%len(b)] ^= 1 << (i / 5 % 8)
			checkModel(t, few(), string(b))
		}
	}
}

// filled are points of few with more behind, so that the payload has just as many bytes as that.
func filled(t *testing.T, front []api.Point, size int) []api.Point {
	t.Helper()
	// At the greatest time, so that how far it is takes as many bytes whatever is ahead.
	points := append(slices.Clone(front), at(math.MaxUint64))
	for {
		last := &points[len(points)-1]
		missing := size - len(payloadOf(points))
		room := 1000 - len(last.Events)
		switch {
		case missing == 0:
			return points
		case missing < 0:
			t.Fatalf("%s can't have %d bytes", brief(told(front)), size)
		case missing > 1 && room <= 0:
			points = append(points, at(math.MaxUint64))
		default:
			last.Events = append(last.Events, make([]api.Event, max(1, min(missing-2, room)))...)
		}
	}
}

// fronts are points of few of all sorts, with which a payload begins.
func fronts() [][]api.Point {
	return [][]api.Point{
		{at(0)}, {at(128)}, {at(math.MaxUint64)}, {at(0), at(127)}, {at(0), at(1 << 63)},
		{at(0, ev(4, num(0), num(-64), num(-65), num(math.MinInt64), num(math.MaxInt64), num(1), num(0), num(1<<40)))},
		{at(0, ev(2, text("")))}, {at(0, ev(2, text(long(128))), ev(2, text(long(200))))},
		{at(0, ev(3, text("a"), num(0), text("a")), ev(2, text("a"))), at(3, ev(2, text("a")))},
		{at(0, make([]api.Event, 1024)...)}, make([]api.Point, 200), make([]api.Point, 900), mixed(),
		listed(short(127), 1), listed(short(128), 128), listed(slices.Repeat(short(130), 3), 130), listed(short(500), 100),
	}
}

// checkTooLong holds a payload of few that is too long, whose last point has so many events of q: what is wrong ahead is told first.
func checkTooLong(t *testing.T, b string, events int) {
	t.Helper()
	front := b[:len(b)-1]
	checkWrong(t, few(), b, api.ErrLimit)
	checkWrong(t, few(), b+"\x00", api.ErrForm)
	checkWrong(t, few(), front, api.ErrShort)
	if events == 0 {
		checkWrong(t, few(), front+"\x81\x08", api.ErrLimit)
		return
	}
	checkWrong(t, few(), front+"\x06", api.ErrName)
	checkWrong(t, few(), front+"\x01", api.ErrShort)
	checkWrong(t, few(), front+"\x01\x80\x00", api.ErrForm)
	checkWrong(t, few(), front+"\x02\xff\x7f", api.ErrNone)
}

// Payloads of just as many bytes as there may be, and of more.
func TestHowManyBytes(t *testing.T) {
	for _, front := range fronts() {
		for _, size := range []int{4095, 4096} {
			points := filled(t, front, size)
			b := payloadOf(points)
			if len(b) != size {
				t.Fatalf("%d bytes, want %d", len(b), size)
			}
			checkGet(t, few(), b, points)
			checkWrong(t, few(), b+"\x00", api.ErrForm)
			checkWrong(t, few(), b[:size-1], api.ErrShort)
		}
		for _, size := range []int{4097, 4098, 8193} {
			points := filled(t, front, size)
			checkTooLong(t, payloadOf(points), len(points[len(points)-1].Events))
		}
	}
	many := "\x00\x80\x08\x00" + strings.Repeat("\x80\x08"+strings.Repeat("\x00", 1024)+"\x00", 1024)
	checkWrong(t, few(), many[:len(many)-1], api.ErrLimit)
	checkWrong(t, few(), many, api.ErrForm)
	checkWrong(t, few(), many[:len(many)-2], api.ErrShort)
}

// reordered are all orders of texts.
func reordered(texts []string) [][]string {
	if len(texts) == 0 {
		return [][]string{nil}
	}
	var all [][]string
	for i := range texts {
		rest := slices.Delete(slices.Clone(texts), i, i+1)
		for _, order := range reordered(rest) {
			all = append(all, append([]string{texts[i]}, order...))
		}
	}
	return all
}

// Texts that stand in another order than that in which they come first, that no argument has, or that stand twice.
func TestOtherDictionaries(t *testing.T) {
	for _, points := range [][]api.Point{mixed(), {at(1, ev(5, text("d"), text("a"), text("c"), text("b"), text("b"), text("a"), text("c"), text("d")))}, listed([]string{"b", "a", "b", ""}, 1)} {
		texts := textsOf(points)
		for i, order := range reordered(texts) {
			if i > 0 {
				checkWrong(t, few(), payloadWith(points, order), api.ErrForm)
			}
		}
		for i := 0; i <= len(texts); i++ {
			for _, more := range append([]string{"new", "A", long(200)}, texts...) {
				checkWrong(t, few(), payloadWith(points, slices.Insert(slices.Clone(texts), i, more)), api.ErrForm)
			}
		}
		checkPoints(t, few(), points)
	}
	checkWrong(t, nil, "\x05\x01\x01\x01a\x00", api.ErrForm)
	checkWrong(t, few(), "\x05\x01\x01\x00\x01\x01\x00", api.ErrForm)
	// The same text by both of its numbers, and by one.
	checkWrong(t, few(), "\x05\x01\x02\x01a\x01a\x02\x02\x00\x02\x01", api.ErrForm)
	checkWrong(t, few(), "\x05\x01\x02\x01a\x01a\x02\x02\x01\x02\x00", api.ErrForm)
	checkWrong(t, few(), "\x05\x01\x02\x01a\x01a\x02\x02\x00\x02\x00", api.ErrForm)
	checkWrong(t, few(), "\x05\x01\x02\x01a\x01a\x02\x02\x01\x02\x01", api.ErrForm)
}

// Another dictionary is told behind all else: bytes behind, and too many bytes.
func TestOtherDictionariesLast(t *testing.T) {
	for _, size := range []int{4095, 4096, 4097, 4098} {
		points := filled(t, mixed(), size)
		texts := textsOf(points)
		slices.Reverse(texts)
		b := payloadWith(points, texts)
		if len(b) != size {
			t.Fatalf("%d bytes, want %d", len(b), size)
		}
		want := api.ErrForm
		if size > 4096 {
			want = api.ErrLimit
		}
		checkWrong(t, few(), b, want)
		checkWrong(t, few(), b+"\x00", api.ErrForm)
		checkWrong(t, few(), b[:size-1]+"\x06", api.ErrName)
	}
	points := filled(t, mixed(), 4095)
	checkWrong(t, few(), payloadWith(points, append(textsOf(points), "")), api.ErrForm)
	checkWrong(t, few(), payloadWith(points, append(textsOf(points), "a")), api.ErrLimit)
}

// A payload that isn't too long is another one than that of its points also where theirs would be too long: with the text that comes last as the first one, they are told by fewer bytes.
func TestShorterThanItsOwn(t *testing.T) {
	texts := short(129)
	points := listed(append(slices.Clone(texts), slices.Repeat(texts[128:], 800)...), 1000)
	order := append([]string{texts[128]}, texts[:128]...)
	for _, size := range []int{3500, 4095, 4096} {
		all := append(slices.Clone(points), at(9, make([]api.Event, 1000)...))
		all = append(all, at(9, make([]api.Event, size-len(payloadWith(all, order))-3)...))
		b := payloadWith(all, order)
		if len(b) != size || len(payloadOf(all)) != size+800 {
			t.Fatalf("%d bytes, and its own %d", len(b), len(payloadOf(all)))
		}
		checkWrong(t, few(), b, api.ErrForm)
	}
}

// some are points of all sorts, whose payloads aren't long.
func some() [][]api.Point {
	return [][]api.Point{
		mixed(), {at(0)}, {at(math.MaxUint64)}, {at(5), at(5), at(200)}, {at(3, ev(1, num(math.MinInt64)))},
		{at(0, ev(3, text("x"), num(-5), text("y")), ev(3, text("y"), num(1), text("")))},
		{at(9, ev(2, text(long(130)))), at(700, ev(2, text("b")), ev(2, text(long(130))))},
		listed([]string{"b", "a", "b", "", "a", "c"}, 2), slices.Repeat([]api.Point{at(77, ev(0))}, 20),
	}
}

// A payload that is cut off anywhere isn't read, nor one with bytes behind.
func TestCutOff(t *testing.T) {
	all := append(some(), listed(short(129), 129), filled(t, mixed(), 4096))
	for _, points := range all {
		b := payloadOf(points)
		for cut := range len(b) {
			checkWrong(t, few(), b[:cut], api.ErrShort)
		}
		for c := range 256 {
			checkWrong(t, few(), b+string([]byte{byte(c)}), api.ErrForm)
		}
		for _, behind := range behinds()[1:] {
			checkWrong(t, few(), b+behind, api.ErrForm)
		}
		checkWrong(t, few(), b+b, api.ErrForm)
	}
}

// With any byte of a payload another one, it is read as other points, or not at all.
func TestOtherBytes(t *testing.T) {
	for _, points := range some() {
		right := payloadOf(points)
		was := told(points)
		for i := range right {
			b := []byte(right)
			for c := range 256 {
				b[i] = byte(c)
				if byte(c) != right[i] && checkModel(t, few(), string(b)) {
					if others, _ := Get(few(), b); told(others) == was {
						t.Errorf("%q and %q are read as the same points", b, right)
					}
				}
			}
		}
	}
}

// A payload is read by its signature: by another one it is of other points, or of none.
func TestOtherSignatures(t *testing.T) {
	checkGet(t, []api.Pred{pred("p", 1)}, "\x00\x01\x00\x01\x00\x00", []api.Point{at(0, ev(0, num(0)))})
	checkWrong(t, []api.Pred{pred("p", 2)}, "\x00\x01\x00\x01\x00\x00", api.ErrNone)
	checkWrong(t, []api.Pred{pred("p")}, "\x00\x01\x00\x01\x00\x00", api.ErrForm)
	checkWrong(t, []api.Pred{pred("p", 1, 1)}, "\x00\x01\x00\x01\x00\x00", api.ErrShort)
	checkWrong(t, nil, "\x00\x01\x00\x01\x00\x00", api.ErrName)
	checkGet(t, []api.Pred{pred("p")}, "\x00\x02\x00\x00\x00\x00", []api.Point{at(0), at(0)})
	for _, l := range smallSignatures() {
		for _, other := range smallSignatures() {
			for _, e := range smallEvents(other) {
				checkModel(t, l, payloadOf([]api.Point{at(1, e), at(1, e, e)}))
			}
		}
	}
}

// Base is the number that stands in front, whatever is behind, and whatever the points are.
func TestBase(t *testing.T) {
	for _, n := range append(edges(), 1024, 4097) {
		for _, behind := range append(behinds(), "x", "\x01\x00\x00", "\x80\x80\x80\x80\x80\x80\x80\x80\x80\x80") {
			if time, e := Base([]byte(number(n) + behind)); time != n || e != api.OK {
				t.Errorf("Base(%q) = %d, %d, want %d", brief(number(n)+behind), time, e, n)
			}
		}
	}
	for _, b := range cutNumbers() {
		if time, e := Base([]byte(b)); time != 0 || e != api.ErrShort {
			t.Errorf("Base(%q) = %d, %d", b, time, e)
		}
	}
	for _, x := range wrongNumbers() {
		for _, behind := range behinds() {
			if time, e := Base([]byte(x.bytes + behind)); time != 0 || e != x.want {
				t.Errorf("Base(%q) = %d, %d, want 0, %d", brief(x.bytes+behind), time, e, x.want)
			}
		}
	}
	allBytes("\x00\x01\x7f\x80\x81\xff", 5, func(b string) { checkBase(t, b) })
}

// A nil list is the same as an empty one.
func TestNilAndEmpty(t *testing.T) {
	for _, l := range [][]api.Pred{nil, {}} {
		checkGet(t, l, "\x01\x02\x00\x00\x01\x00", []api.Point{at(1), at(2)})
		for _, b := range [][]byte{nil, {}} {
			if points, e := Get(l, b); len(points) != 0 || e != api.ErrShort {
				t.Errorf("of no bytes it is %s, %d", told(points), e)
			}
		}
	}
	for _, l := range [][]api.Pred{{pred("q")}, {{Name: "q", Args: []int{}}}} {
		checkGet(t, l, "\x01\x01\x00\x01\x00", []api.Point{at(1, ev(0))})
	}
	for _, b := range [][]byte{nil, {}} {
		if n, e := Base(b); n != 0 || e != api.ErrShort {
			t.Errorf("Base of no bytes is %d, %d", n, e)
		}
	}
}

// crowded are a signature and a payload with room behind the ends of their lists, in which something stands.
func crowded() ([]api.Pred, []byte) {
	types := []int{2, 1, 2, 7, 8, 9}
	l := []api.Pred{pred("q"), {Name: "b", Args: types[:3]}, {Name: "s", Args: types[2:3]}, pred("9", 5)}
	return l[:3], []byte(crowdedPayload + "\x00\x00\x00\x00")[:len(crowdedPayload)]
}

// crowdedPayload is a payload of crowded's signature, and crowdedPoints are its points.
const crowdedPayload = "\x03\x03\x03\x01a\x01b\x00" + "\x02\x01\x00\x0a\x01\x02\x01" + "\x00\x02\x02\x00\x01\x01\x0e\x02" + "\xa9\x02\x01\x02\x01"

func crowdedPoints() []api.Point {
	return []api.Point{
		at(3, ev(1, text("a"), num(5), text("b")), ev(2, text("b"))),
		at(3, ev(2, text("a")), ev(1, text("b"), num(7), text(""))),
		at(300, ev(2, text("b"))),
	}
}

// whole are a signature and a payload, with all that is behind the ends of their lists.
func whole(l []api.Pred, payload []byte) string {
	var all strings.Builder
	for _, p := range l[:cap(l)] {
		fmt.Fprintf(&all, "%q%v;", p.Name, p.Args[:cap(p.Args)])
	}
	fmt.Fprintf(&all, "%q", payload[:cap(payload)])
	return all.String()
}

// What is handed in stays as it was, and what is behind the ends of its lists isn't gone to.
func TestLeavesWhatIsHandedIn(t *testing.T) {
	l, payload := crowded()
	was := whole(l, payload)
	for range 3 {
		if points, e := Get(l, payload); told(points) != told(crowdedPoints()) || e != api.OK {
			t.Errorf("Get = %s, %d", told(points), e)
		}
		if _, e := Get(l, payload[:len(payload)-1]); e != api.ErrShort {
			t.Errorf("cut off it is %d", e)
		}
		if _, e := Get(l, payload[:len(payload)+1]); e != api.ErrForm {
			t.Errorf("with a byte more it is %d", e)
		}
		if _, e := Get(l[:4], payload); e != api.ErrName {
			t.Errorf("with a predicate more it is %d", e)
		}
		if n, e := Base(payload); n != 3 || e != api.OK {
			t.Errorf("Base = %d, %d", n, e)
		}
	}
	if now := whole(l, payload); now != was {
		t.Errorf("what was handed in is %s, was %s", now, was)
	}
}

// Whoever writes into what was handed in changes nothing of what was answered; and what is answered then is of what stands there then.
func TestKeepsNothing(t *testing.T) {
	l, payload := crowded()
	points, _ := Get(l, payload)
	payload[4], payload[0] = 'c', 9
	other, e := Get(l, payload)
	want := crowdedPoints()
	want[0].At, want[1].At, want[2].At = 9, 9, 306
	want[0].Events[0].Args[0], want[1].Events[0].Args[0] = text("c"), text("c")
	if told(other) != told(want) || e != api.OK {
		t.Errorf("Get of other bytes = %s, %d, want %s", told(other), e, told(want))
	}
	if n, e := Base(payload); n != 9 || e != api.OK {
		t.Errorf("Base of other bytes = %d, %d", n, e)
	}
	l[1].Args[1] = 2
	if other, e := Get(l, payload); len(other) != 0 || e != api.ErrNone {
		t.Errorf("Get of another signature = %s, %d", told(other), e)
	}
	clear(payload[:cap(payload)])
	clear(l[1].Args)
	clear(l[:cap(l)])
	if told(points) != told(crowdedPoints()) {
		t.Errorf("what was answered became %s", told(points))
	}
}

// spoil writes over points, and behind them and their lists as far as there is room.
func spoil(points []api.Point) {
	points = points[:cap(points)]
	for i, p := range points {
		for k, e := range p.Events[:cap(p.Events)] {
			args := e.Args[:cap(e.Args)]
			for n := range args {
				args[n] = api.Arg{Type: 9, N: 9, S: "spoiled"}
			}
			p.Events[:cap(p.Events)][k] = api.Event{Pred: 9}
		}
		points[i] = api.Point{At: 9}
	}
}

// What is answered is new memory, as far as there is room behind it, and no two lists of an answer share any.
func TestAnswersNewMemory(t *testing.T) {
	for _, points := range append(some(), fronts()...) {
		b := payloadOf(points)
		kept, _ := Get(few(), []byte(b))
		for range 2 {
			other, _ := Get(few(), []byte(b))
			spoil(other)
			checkGet(t, few(), b, points)
		}
		if told(kept) != told(points) {
			t.Errorf("with other answers written into, the first one is %s", brief(told(kept)))
		}
	}
	for _, points := range some() {
		for i, p := range points {
			for k := range p.Events {
				checkOwnLists(t, points, i, k)
			}
		}
	}
}

// checkOwnLists holds that whoever writes into one event's arguments, or behind its lists, changes no other event and point.
func checkOwnLists(t *testing.T, points []api.Point, i, k int) {
	t.Helper()
	got, _ := Get(few(), []byte(payloadOf(points)))
	e := &got[i].Events[k]
	for n := range e.Args {
		e.Args[n] = num(77)
	}
	_ = append(e.Args, num(78), num(79))
	_ = append(got[i].Events, ev(80), ev(81))
	_ = append(got, at(82))
	e.Args = points[i].Events[k].Args
	if told(got) != told(points) {
		t.Errorf("with the event %d of the point %d written into, they are %s", k, i, told(got))
	}
}

// An answer hangs on what was handed in alone, not on the calls ahead.
func TestHangsOnNothingElse(t *testing.T) {
	for range 3 {
		checkGet(t, few(), "\x05\x01\x01\x01a\x01\x02\x00", []api.Point{at(5, ev(2, text("a")))})
		checkWrong(t, few(), "\x05\x01\x00\x01\x02\x00", api.ErrNone)
		checkGet(t, few(), "\x05\x01\x02\x01b\x01a\x02\x02\x00\x02\x01", []api.Point{at(5, ev(2, text("b")), ev(2, text("a")))})
		checkWrong(t, nil, "\x05\x01\x00\x01\x00", api.ErrName)
		checkGet(t, []api.Pred{pred("s", 1)}, "\x05\x01\x00\x01\x00\x00", []api.Point{at(5, ev(0, num(0)))})
		checkWrong(t, few(), "\x05\x01\x01\x01c\x01\x02", api.ErrShort)
		checkGet(t, few(), "\x01\x01\x01\x01c\x01\x02\x00", []api.Point{at(1, ev(2, text("c")))})
		checkWrong(t, []api.Pred{{}}, "\x01\x01\x00\x00", api.ErrName)
	}
}
