package block

import (
	"encoding/binary"
	"fmt"
	"hash/crc32"
	"math"
	"slices"
	"strings"
	"testing"

	"tachograph/api"
	"tachograph/frame"
	"tachograph/trace"
)

// pred is a predicate of a name and arguments' types.
func pred(name string, args ...int) api.Pred {
	return api.Pred{Name: name, Args: args}
}

// num and text are arguments of the two types.
func num(n int64) api.Arg { return api.Arg{Type: 1, N: n} }

func text(s string) api.Arg { return api.Arg{Type: 2, S: s} }

// ev is an event of a predicate's number and arguments.
func ev(p int, args ...api.Arg) api.Event {
	return api.Event{Pred: p, Args: args}
}

// at is a point of a time and events.
func at(time uint64, events ...api.Event) api.Point {
	return api.Point{At: time, Events: events}
}

// long is a text of some size.
func long(size int) string { return strings.Repeat("x", size) }

// few is a signature of predicates with none, one and more arguments.
func few() []api.Pred {
	return []api.Pred{pred("q"), pred("p", 1), pred("s", 2), pred("b", 2, 1, 2), pred("i", 1, 1, 1, 1, 1, 1, 1, 1), pred("t", 2, 2, 2, 2, 2, 2, 2, 2)}
}

// most is a signature of as many predicates as there may be, each with an Int.
func most() []api.Pred {
	var l []api.Pred
	for i := range 64 {
		l = append(l, pred(fmt.Sprint("p", i), 1))
	}
	return l
}

// number are a number's bytes, by the library.
func number[N int | uint64](n N) string { return string(binary.AppendUvarint(nil, uint64(n))) }

// folded are the bytes of a whole number's folded one, by the library.
func folded(n int64) string { return string(binary.AppendVarint(nil, n)) }

// textBytes are a text's bytes.
func textBytes(s string) string { return number(len(s)) + s }

// textsOf are the texts of points, each where it came first, by a list that is gone through.
func textsOf(t []api.Point) []string {
	var texts []string
	for _, p := range t {
		for _, e := range p.Events {
			for _, a := range e.Args {
				if a.Type == 2 && !slices.Contains(texts, a.S) {
					texts = append(texts, a.S)
				}
			}
		}
	}
	return texts
}

// payloadOf is the chapter's payload of points that may be.
func payloadOf(t []api.Point) string {
	var b strings.Builder
	texts := textsOf(t)
	b.WriteString(number(t[0].At) + number(len(t)) + number(len(texts)))
	for _, s := range texts {
		b.WriteString(textBytes(s))
	}
	for i, p := range t {
		if i > 0 {
			b.WriteString(number(p.At - t[i-1].At))
		}
		b.WriteString(number(len(p.Events)))
		for _, e := range p.Events {
			b.WriteString(number(e.Pred))
			for _, a := range e.Args {
				if a.Type == 1 {
					b.WriteString(folded(a.N))
				} else {
					b.WriteString(number(slices.Index(texts, a.S)))
				}
			}
		}
	}
	return b.String()
}

// frameOf are the bytes of a frame of points with a payload, by the library's sum.
func frameOf(payload string) string {
	body := "\x02" + textBytes(payload)
	return "\xc7TG\x01" + body + string(binary.LittleEndian.AppendUint32(nil, crc32.ChecksumIEEE([]byte(body))))
}

// told are points, so that no two that aren't the same are told alike.
func told(t []api.Point) string {
	var b strings.Builder
	for _, p := range t {
		fmt.Fprintf(&b, "@%d", p.At)
		for _, e := range p.Events {
			fmt.Fprintf(&b, " %d(", e.Pred)
			for _, a := range e.Args {
				fmt.Fprintf(&b, "[%d %d %+q]", a.Type, a.N, a.S)
			}
			b.WriteString(")")
		}
		b.WriteString(";")
	}
	return b.String()
}

// brief is the front of what is told, so that a failure can be read.
func brief(s string) string { return s[:min(len(s), 200)] }

// checkPut holds all calls of points that have a payload.
func checkPut(t *testing.T, l []api.Pred, points []api.Point, want string) {
	t.Helper()
	if b, e := Put(l, points); string(b) != want || e != api.OK {
		t.Errorf("Put(%s) = %q, %d, want %q", brief(told(points)), brief(string(b)), e, brief(want))
	}
	if size, e := Size(l, points); size != len(want) || e != api.OK {
		t.Errorf("Size(%s) = %d, %d, want %d", brief(told(points)), size, e, len(want))
	}
	b, e := Frame(l, points)
	if string(b) != frameOf(want) || e != api.OK {
		t.Errorf("Frame(%s) = %q, %d, want %q", brief(told(points)), brief(string(b)), e, brief(frameOf(want)))
	}
	f, size, e := frame.Get(b)
	if f.Kind != api.EventFrame || string(f.Payload) != want || size != len(b) || e != api.OK {
		t.Errorf("the frame of %s is read as %d, %q, %d, %d", brief(told(points)), f.Kind, brief(string(f.Payload)), size, e)
	}
}

// checkNoBytes holds that Put and Frame answer an error, and no bytes.
func checkNoBytes(t *testing.T, l []api.Pred, points []api.Point, want api.Errno) {
	t.Helper()
	if b, e := Put(l, points); len(b) != 0 || e != want {
		t.Errorf("Put(%s) = %q, %d, want none, %d", brief(told(points)), brief(string(b)), e, want)
	}
	if b, e := Frame(l, points); len(b) != 0 || e != want {
		t.Errorf("Frame(%s) = %q, %d, want none, %d", brief(told(points)), brief(string(b)), e, want)
	}
}

// checkWrong holds all calls of points that have no payload.
func checkWrong(t *testing.T, l []api.Pred, points []api.Point, want api.Errno) {
	t.Helper()
	checkNoBytes(t, l, points, want)
	if size, e := Size(l, points); size != 0 || e != want {
		t.Errorf("Size(%s) = %d, %d, want 0, %d", brief(told(points)), size, e, want)
	}
}

// checkLong holds all calls of points whose payload is too long.
func checkLong(t *testing.T, l []api.Pred, points []api.Point, size int) {
	t.Helper()
	if size <= 4096 {
		t.Fatalf("%d bytes aren't too many", size)
	}
	checkNoBytes(t, l, points, api.ErrLimit)
	if n, e := Size(l, points); n != size || e != api.OK {
		t.Errorf("Size(%s) = %d, %d, want %d", brief(told(points)), n, e, size)
	}
}

// checkOK holds all calls of at most 1024 points, one at least, of a signature against the model.
func checkOK(t *testing.T, l []api.Pred, points []api.Point) {
	t.Helper()
	want := payloadOf(points)
	if len(want) > 4096 {
		checkLong(t, l, points, len(want))
		return
	}
	checkPut(t, l, points, want)
}

// checkModel holds all calls of any points against the chapter, and tells whether there is a payload.
func checkModel(t *testing.T, l []api.Pred, points []api.Point) bool {
	t.Helper()
	e, _ := trace.Check(l, points)
	switch {
	case len(points) == 0:
		checkWrong(t, l, points, api.ErrArg)
	case e != api.OK:
		checkWrong(t, l, points, e)
	case len(points) > 1024:
		checkWrong(t, l, points, api.ErrLimit)
	default:
		checkOK(t, l, points)
		return true
	}
	return false
}

func TestExample(t *testing.T) {
	checkPut(t, []api.Pred{pred("p", api.Int)}, []api.Point{at(5, ev(0, num(3)))}, string([]byte{5, 1, 0, 1, 0, 6}))
}

// Payloads that were worked out by hand.
func TestKnownPayloads(t *testing.T) {
	for _, x := range []struct {
		points []api.Point
		want   string
	}{
		{[]api.Point{at(0)}, "\x00\x01\x00\x00"},
		{[]api.Point{{}}, "\x00\x01\x00\x00"},
		{[]api.Point{{At: 7, Events: []api.Event{}}}, "\x07\x01\x00\x00"},
		{[]api.Point{at(0, ev(0))}, "\x00\x01\x00\x01\x00"},
		{[]api.Point{at(9, api.Event{Args: []api.Arg{}})}, "\x09\x01\x00\x01\x00"},
		{[]api.Point{at(9, ev(0), ev(0), ev(0))}, "\x09\x01\x00\x03\x00\x00\x00"},
		{[]api.Point{at(1), at(1), at(4)}, "\x01\x03\x00\x00\x00\x00\x03\x00"},
		{[]api.Point{at(300, ev(1, num(-1))), at(300), at(428, ev(0), ev(1, num(64)))}, "\xac\x02\x03\x00\x01\x01\x01\x00\x00\x80\x01\x02\x00\x01\x80\x01"},
		{[]api.Point{at(2, ev(2, text("ab")))}, "\x02\x01\x01\x02ab\x01\x02\x00"},
		{[]api.Point{at(2, ev(2, text("")))}, "\x02\x01\x01\x00\x01\x02\x00"},
		{[]api.Point{at(2, ev(1, num(0)))}, "\x02\x01\x00\x01\x01\x00"},
		{[]api.Point{at(2, ev(2, text("b")), ev(2, text("a")), ev(2, text("b")))}, "\x02\x01\x02\x01b\x01a\x03\x02\x00\x02\x01\x02\x00"},
		{[]api.Point{at(2, ev(2, text("b"))), at(2, ev(2, text("a"))), at(3, ev(2, text("b")))}, "\x02\x03\x02\x01b\x01a\x01\x02\x00\x00\x01\x02\x01\x01\x01\x02\x00"},
		{[]api.Point{at(0, ev(3, text("x"), num(5), text("x")))}, "\x00\x01\x01\x01x\x01\x03\x00\x0a\x00"},
		{[]api.Point{at(0, ev(3, text("x"), num(-5), text("y")), ev(3, text("y"), num(1), text("")))}, "\x00\x01\x03\x01x\x01y\x00\x02\x03\x00\x09\x01\x03\x01\x02\x02"},
		{[]api.Point{at(0, ev(3, text(""), num(0), text("\x00"))), at(0, ev(3, text("\x00\x00"), num(0), text("\x00")))}, "\x00\x02\x03\x00\x01\x00\x02\x00\x00\x01\x03\x00\x00\x01\x00\x01\x03\x02\x00\x01"},
		{[]api.Point{at(1, ev(4, num(0), num(1), num(-1), num(2), num(-2), num(3), num(-3), num(4)))}, "\x01\x01\x00\x01\x04\x00\x02\x01\x04\x03\x06\x05\x08"},
		{[]api.Point{at(1, ev(5, text("a"), text("b"), text("a"), text("c"), text("b"), text("a"), text("d"), text("c")))}, "\x01\x01\x04\x01a\x01b\x01c\x01d\x01\x05\x00\x01\x00\x02\x01\x00\x03\x02"},
	} {
		checkPut(t, few(), x.points, x.want)
		if model := payloadOf(x.points); model != x.want {
			t.Errorf("the model's payload of %s is %q, want %q", told(x.points), model, x.want)
		}
	}
}

// edges are the numbers at which a number takes a byte more, and those beside them.
func edges() []uint64 {
	all := []uint64{0, 1, 2, 3, 5, 63, 64, 65, 200, 255, 256, 300, 1 << 31, 1 << 32, 1<<63 - 1, 1 << 63, 1<<63 + 1, math.MaxUint64 - 1, math.MaxUint64}
	for bits := 7; bits < 64; bits += 7 {
		all = append(all, 1<<bits-2, 1<<bits-1, 1<<bits, 1<<bits+1)
	}
	return all
}

// The first time is put as it is.
func TestFirstTime(t *testing.T) {
	for _, time := range edges() {
		checkPut(t, nil, []api.Point{at(time)}, number(time)+"\x01\x00\x00")
		checkPut(t, few(), []api.Point{at(time, ev(1, num(1))), at(time), at(time)}, number(time)+"\x03\x00\x01\x01\x02\x00\x00\x00\x00")
	}
}

// Of each later time how much it is above the one ahead, wherever that is.
func TestLaterTimes(t *testing.T) {
	for _, first := range append(edges(), 1000, 1<<40+77) {
		for _, more := range edges() {
			if more > math.MaxUint64-first {
				continue
			}
			second := first + more
			checkPut(t, nil, []api.Point{at(first), at(second)}, number(first)+"\x02\x00\x00"+number(more)+"\x00")
			checkPut(t, nil, []api.Point{at(0), at(first), at(second), at(second)}, "\x00\x04\x00\x00"+number(first)+"\x00"+number(more)+"\x00\x00\x00")
			checkPut(t, nil, []api.Point{at(first), at(first), at(second), at(math.MaxUint64)}, number(first)+"\x04\x00\x00\x00\x00"+number(more)+"\x00"+number(math.MaxUint64-second)+"\x00")
		}
	}
	checkPut(t, nil, []api.Point{at(0), at(math.MaxUint64)}, "\x00\x02\x00\x00\xff\xff\xff\xff\xff\xff\xff\xff\xff\x01\x00")
	checkPut(t, nil, []api.Point{at(math.MaxUint64), at(math.MaxUint64)}, "\xff\xff\xff\xff\xff\xff\xff\xff\xff\x01\x02\x00\x00\x00\x00")
}

// Times that go on and on are put by what is between them.
func TestManyTimes(t *testing.T) {
	var points []api.Point
	want, time := "", uint64(0)
	for i := range 500 {
		points = append(points, at(time))
		if i > 0 {
			want += number(uint64(i-1) * 37)
		}
		want += "\x00"
		time += uint64(i) * 37
	}
	checkPut(t, nil, points, "\x00"+number(500)+"\x00"+want)
}

// As many points as there may be, and more.
func TestHowManyPoints(t *testing.T) {
	for _, count := range []int{1, 2, 3, 63, 64, 126, 127, 128, 129, 255, 256, 257, 1000, 1022, 1023, 1024} {
		checkPut(t, nil, make([]api.Point, count), "\x00"+number(count)+"\x00\x00"+strings.Repeat("\x00\x00", count-1))
		checkPut(t, few(), slices.Repeat([]api.Point{at(300, ev(0))}, count), "\xac\x02"+number(count)+"\x00\x01\x00"+strings.Repeat("\x00\x01\x00", count-1))
	}
	for _, count := range []int{1025, 1026, 2048, 1<<16 + 1, 1 << 20} {
		checkWrong(t, nil, make([]api.Point, count), api.ErrLimit)
		checkWrong(t, few(), slices.Repeat([]api.Point{at(300, ev(1, num(5)))}, count), api.ErrLimit)
	}
}

// As many events of a point as there may be.
func TestHowManyEvents(t *testing.T) {
	for _, count := range []int{0, 1, 2, 63, 64, 126, 127, 128, 129, 255, 256, 257, 1000, 1023, 1024} {
		many := slices.Repeat([]api.Event{ev(0)}, count)
		checkPut(t, few(), []api.Point{at(1, many...)}, "\x01\x01\x00"+number(count)+strings.Repeat("\x00", count))
		checkPut(t, few(), []api.Point{at(1), at(2, many...), at(2, ev(0))}, "\x01\x03\x00\x00\x01"+number(count)+strings.Repeat("\x00", count)+"\x00\x01\x00")
	}
	for _, count := range []int{1025, 1026, 2048} {
		checkWrong(t, few(), []api.Point{at(1, slices.Repeat([]api.Event{ev(0)}, count)...)}, api.ErrLimit)
	}
}

// Each predicate's number that there may be.
func TestPreds(t *testing.T) {
	for i := range 64 {
		checkPut(t, most(), []api.Point{at(1, ev(i, num(-2)))}, "\x01\x01\x00\x01"+string([]byte{byte(i)})+"\x03")
		checkPut(t, most(), []api.Point{at(1), at(1, ev(63, num(1)), ev(i, num(0)), ev(0, num(2)))}, "\x01\x02\x00\x00\x00\x03\x3f\x02"+string([]byte{byte(i)})+"\x00\x00\x04")
		checkWrong(t, most()[:i], []api.Point{at(1, ev(i, num(-2)))}, api.ErrName)
	}
	checkWrong(t, most(), []api.Point{at(1, ev(64, num(-2)))}, api.ErrName)
}

// Of an Int the folded number, by hand and by the library.
func TestInts(t *testing.T) {
	for _, x := range []struct {
		n    int64
		want string
	}{
		{0, "\x00"}, {-1, "\x01"}, {1, "\x02"}, {-2, "\x03"}, {63, "\x7e"}, {-64, "\x7f"}, {64, "\x80\x01"}, {-65, "\x81\x01"}, {150, "\xac\x02"},
		{8191, "\xfe\x7f"}, {-8192, "\xff\x7f"}, {8192, "\x80\x80\x01"}, {-8193, "\x81\x80\x01"},
		{math.MaxInt64, "\xfe\xff\xff\xff\xff\xff\xff\xff\xff\x01"}, {math.MinInt64, "\xff\xff\xff\xff\xff\xff\xff\xff\xff\x01"},
	} {
		checkPut(t, few(), []api.Point{at(1, ev(1, num(x.n)))}, "\x01\x01\x00\x01\x01"+x.want)
		checkPut(t, few(), []api.Point{at(1, ev(4, num(x.n), num(0), num(x.n), num(1), num(x.n), num(x.n), num(2), num(x.n)))}, "\x01\x01\x00\x01\x04"+x.want+"\x00"+x.want+"\x02"+x.want+x.want+"\x04"+x.want)
	}
	for _, edge := range edges() {
		for _, n := range []int64{int64(edge), -int64(edge), int64(edge / 2), -int64(edge / 2), int64(edge/2) - 1, -int64(edge/2) - 1} {
			checkPut(t, few(), []api.Point{at(1, ev(1, num(n))), at(1, ev(1, num(n)))}, "\x01\x02\x00\x01\x01"+folded(n)+"\x00\x01\x01"+folded(n))
		}
	}
}

// hardTexts are of any bytes, of all sizes, and such as may be taken for one another. No two are the same.
func hardTexts() []string {
	l := []string{"", "\x00\x00", "ab", "aB", "ab ", "ab\x00", "\x00ab", "é", "e\u0301", "\xc3", "\xff\xff", "\xff\xfe", "\ufffd", "\xed\xa0\x80", "\x02ab", "\x01\x01"}
	for b := range 256 {
		l = append(l, string([]byte{byte(b)}), string([]byte{'~', byte(b)}))
	}
	for size := 3; size <= 200; size++ {
		l = append(l, long(size))
	}
	slices.Sort(l)
	return slices.Compact(l)
}

// Of a Str the number of its text, which stands in the dictionary as it is.
func TestTexts(t *testing.T) {
	for _, s := range hardTexts() {
		checkPut(t, few(), []api.Point{at(1, ev(2, text(s)))}, "\x01\x01\x01"+textBytes(s)+"\x01\x02\x00")
		checkPut(t, few(), []api.Point{at(1, ev(3, text("~~!"), num(1), text(s)), ev(2, text(s)))}, "\x01\x01\x02\x03~~!"+textBytes(s)+"\x02\x03\x00\x02\x01\x02\x01")
		checkPut(t, few(), []api.Point{at(1, ev(3, text(s), num(1), text(s))), at(1), at(2, ev(2, text("~~!")), ev(2, text(s)))}, "\x01\x03\x02"+textBytes(s)+"\x03~~!\x01\x03\x00\x02\x00\x00\x00\x01\x02\x02\x01\x02\x00")
	}
	for size := 0; size <= 200; size++ {
		for _, c := range []string{"\x00", "a", "\xff"} {
			s := strings.Repeat(c, size)
			checkPut(t, few(), []api.Point{at(1, ev(2, text(s)))}, "\x01\x01\x01"+textBytes(s)+"\x01\x02\x00")
		}
	}
	for _, size := range []int{201, 202, 256, 4096, 1 << 16} {
		checkWrong(t, few(), []api.Point{at(1, ev(2, text(long(size))))}, api.ErrLimit)
	}
}

// Texts that may be taken for one another have numbers of their own, whichever comes first.
func TestTwoTexts(t *testing.T) {
	all := hardTexts()
	for i, s := range all {
		for _, k := range []int{0, i / 2, i - 1} {
			if k < 0 || k == i {
				continue
			}
			other := all[k]
			checkPut(t, few(), []api.Point{at(1, ev(2, text(s)), ev(3, text(other), num(0), text(s)))}, "\x01\x01\x02"+textBytes(s)+textBytes(other)+"\x02\x02\x00\x03\x01\x00\x00")
			checkPut(t, few(), []api.Point{at(1, ev(2, text(other))), at(1, ev(2, text(s)), ev(2, text(other)))}, "\x01\x02\x02"+textBytes(other)+textBytes(s)+"\x01\x02\x00\x00\x02\x02\x01\x02\x00")
		}
	}
}

// short are texts of few bytes, no two of which are the same.
func short(count int) []string {
	var l []string
	for i := range count {
		l = append(l, strings.TrimLeft(string([]byte{byte(i >> 14), byte(i >> 7 & 127), byte(i&127 + 128)}), "\x00"))
	}
	return l
}

// listed are points that have texts in order, one an event, so many events in each.
func listed(texts []string, each int) []api.Point {
	var points []api.Point
	for i, s := range texts {
		if i%each == 0 {
			points = append(points, at(9))
		}
		last := &points[len(points)-1]
		last.Events = append(last.Events, ev(2, text(s)))
	}
	return points
}

// As many texts as one likes: how many there are, and the numbers of the last ones, at the edges.
func TestHowManyTexts(t *testing.T) {
	for _, count := range []int{1, 2, 126, 127, 128, 129, 130, 200, 255, 256, 257, 400} {
		texts := short(count)
		want := "\x09\x01" + number(count)
		for _, s := range texts {
			want += textBytes(s)
		}
		want += number(count + 2)
		for i := range texts {
			want += "\x02" + number(i)
		}
		points := listed(texts, count)
		points[0].Events = append(points[0].Events, ev(2, text(texts[0])), ev(2, text(texts[count-1])))
		checkPut(t, few(), points, want+"\x02\x00\x02"+number(count-1))
		for _, each := range []int{1, 3, 127, 128} {
			checkOK(t, few(), listed(texts, each))
		}
	}
}

// More texts than a payload may have: Size counts them, too.
func TestSizeOfManyTexts(t *testing.T) {
	for _, count := range []int{1000, 2000, 16383, 16384, 16385, 20000} {
		texts := short(count)
		size := 1 + 1 + len(number(count))
		for i, s := range texts {
			size += 1 + len(s) + 1 + len(number(i))
		}
		points := listed(texts, 1000)
		for i, p := range points {
			size += len(number(len(p.Events)))
			if i > 0 {
				size++
			}
		}
		checkLong(t, few(), points, size)
	}
}

// The dictionary has its texts in the order in which they came first, through points, events and arguments.
func TestOrderOfTexts(t *testing.T) {
	names := []string{"d", "a", "c", "b"}
	for _, order := range [][]int{{0, 1, 2, 3}, {3, 2, 1, 0}, {1, 0, 3, 2}, {2, 0, 3, 1}} {
		var l []api.Arg
		dictionary := ""
		for _, i := range order {
			l = append(l, text(names[i]))
			dictionary += "\x01" + names[i]
		}
		a, b, c, d := l[0], l[1], l[2], l[3]
		for _, x := range []struct {
			points []api.Point
			want   string
		}{
			{[]api.Point{at(0, ev(5, a, b, c, d, d, c, b, a))}, "\x01\x04" + dictionary + "\x01\x05\x00\x01\x02\x03\x03\x02\x01\x00"},
			{[]api.Point{at(0, ev(2, a), ev(2, b)), at(0, ev(2, c), ev(2, a), ev(2, d))}, "\x02\x04" + dictionary + "\x02\x02\x00\x02\x01\x00\x03\x02\x02\x02\x00\x02\x03"},
			{[]api.Point{at(0, ev(3, a, num(0), b)), at(0), at(0, ev(3, b, num(0), c)), at(0, ev(2, d))}, "\x04\x04" + dictionary + "\x01\x03\x00\x00\x01\x00\x00\x00\x01\x03\x01\x00\x02\x00\x01\x02\x03"},
		} {
			checkPut(t, few(), x.points, "\x00"+x.want)
		}
	}
}

// The texts of arguments of the type Int are none of the dictionary's.
func TestTextsOfInts(t *testing.T) {
	checkPut(t, few(), []api.Point{at(0, ev(1, num(0)), ev(1, num(1)))}, "\x00\x01\x00\x02\x01\x00\x01\x02")
	checkPut(t, few(), []api.Point{at(0, ev(1, num(0)), ev(2, text("a")))}, "\x00\x01\x01\x01a\x02\x01\x00\x02\x00")
	checkPut(t, few(), []api.Point{at(0, ev(4, slices.Repeat([]api.Arg{num(0)}, 8)...), ev(2, text("a")), ev(2, text("")))}, "\x00\x01\x02\x01a\x00\x03\x04\x00\x00\x00\x00\x00\x00\x00\x00\x02\x00\x02\x01")
}

// argLists are all lists of up to so many arguments' types.
func argLists(most int) [][]int {
	all := [][]int{nil}
	for i := 0; i < len(all); i++ {
		if len(all[i]) < most {
			all = append(all, append(slices.Clone(all[i]), 1), append(slices.Clone(all[i]), 2))
		}
	}
	return all
}

// smallSignatures are all signatures of up to two predicates, with up to two arguments each.
func smallSignatures() [][]api.Pred {
	all := [][]api.Pred{nil}
	for _, a := range argLists(2) {
		all = append(all, []api.Pred{pred("a", a...)})
		for _, b := range argLists(2) {
			all = append(all, []api.Pred{pred("a", a...), pred("b", b...)})
		}
	}
	return all
}

// smallEvents are all events of a signature with some arguments.
func smallEvents(l []api.Pred) []api.Event {
	var all []api.Event
	for i, p := range l {
		rows := [][]api.Arg{nil}
		for _, typ := range p.Args {
			values := []api.Arg{num(-1), num(64)}
			if typ == 2 {
				values = []api.Arg{text(""), text("a")}
			}
			var longer [][]api.Arg
			for _, row := range rows {
				for _, value := range values {
					longer = append(longer, append(slices.Clone(row), value))
				}
			}
			rows = longer
		}
		for _, row := range rows {
			all = append(all, ev(i, row...))
		}
	}
	return all
}

// lists are all lists of up to so many of some.
func lists[T any](of []T, most int) [][]T {
	all := [][]T{nil}
	for i := 0; i < len(all); i++ {
		if len(all[i]) < most {
			for _, x := range of {
				all = append(all, append(slices.Clone(all[i]), x))
			}
		}
	}
	return all
}

// All traces of up to two points, with up to two events in the first one and one in the second, of all small signatures.
func TestAllSmallSignatures(t *testing.T) {
	for _, l := range smallSignatures() {
		events := smallEvents(l)
		for _, first := range lists(events, 2) {
			checkOK(t, l, []api.Point{at(127, first...)})
			for _, second := range lists(events, 1) {
				checkOK(t, l, []api.Point{at(128, first...), at(128, second...)})
			}
		}
		if t.Failed() {
			t.Fatalf("of the signature %v", l)
		}
	}
}

// All traces of up to three points, in which times stay, go on by one byte or by two, of some lists of events.
func TestAllSmallTraces(t *testing.T) {
	l := []api.Pred{pred("q"), pred("s", 2), pred("b", 1, 2)}
	kinds := [][]api.Event{nil, {ev(0)}, {ev(1, text("a"))}, {ev(1, text("")), ev(0)}, {ev(2, num(-1), text("b"))}, {ev(2, num(64), text("a")), ev(1, text("b"))}}
	var steps []api.Point
	for _, more := range []uint64{0, 1, 128} {
		for _, events := range kinds {
			steps = append(steps, at(more, events...))
		}
	}
	for _, row := range lists(steps, 3) {
		time := uint64(0)
		points := slices.Clone(row)
		for i := range points {
			time += points[i].At
			points[i].At = time
		}
		checkModel(t, l, points)
	}
}

// All traces of up to three points, right and wrong ones, of signatures that may and may not be.
func TestAllRightAndWrong(t *testing.T) {
	signatures := [][]api.Pred{nil, {pred("p", 1)}, {pred("p", 2)}, {pred("p", 1), pred("p", 1)}, {pred("p", 1), pred("q")}, {pred("", 1)}, {pred("p", 3)}}
	steps := []api.Point{at(0), at(1), at(0, ev(0, num(1))), at(1, ev(0, num(1))), at(1, ev(0, text("a"))), at(0, ev(1)), at(1, ev(0)), at(1, ev(0, num(1)), ev(-1)), at(1, ev(0, api.Arg{Type: 1, S: "a"})), at(1, ev(0, api.Arg{Type: 2, N: 1})), at(2, ev(0, api.Arg{Type: 3}))}
	right := 0
	for _, l := range signatures {
		for _, points := range lists(steps, 3) {
			if checkModel(t, l, points) {
				right++
			}
		}
	}
	if right < 100 {
		t.Errorf("only %d of them are right", right)
	}
}

// wrongSignatures may not be, and why.
func wrongSignatures() []struct {
	l    []api.Pred
	want api.Errno
} {
	return []struct {
		l    []api.Pred
		want api.Errno
	}{
		{make([]api.Pred, 65), api.ErrLimit},
		{append(most(), pred("more")), api.ErrLimit},
		{[]api.Pred{{}}, api.ErrName},
		{[]api.Pred{pred("9", 1)}, api.ErrName},
		{[]api.Pred{pred(long(33), 1)}, api.ErrName},
		{append(few(), pred("p", 1)), api.ErrName},
		{append(few(), pred("wide", 1, 1, 1, 1, 1, 1, 1, 1, 1)), api.ErrLimit},
		{append(few(), pred("strange", 3)), api.ErrType},
		{append(few(), pred("strange", 1, 0)), api.ErrType},
		{append(few(), pred("strange", -1)), api.ErrType},
	}
}

// wrongEvents are events that aren't few's, and why.
func wrongEvents() []struct {
	e    api.Event
	want api.Errno
} {
	return []struct {
		e    api.Event
		want api.Errno
	}{
		{ev(-1), api.ErrName}, {ev(6), api.ErrName}, {ev(64), api.ErrName}, {ev(math.MinInt), api.ErrName}, {ev(math.MaxInt), api.ErrName}, {ev(1<<32, num(1)), api.ErrName},
		{ev(0, num(1)), api.ErrArg}, {ev(1), api.ErrArg}, {ev(1, num(1), num(1)), api.ErrArg}, {ev(2), api.ErrArg}, {ev(3, text("a"), num(1)), api.ErrArg}, {ev(4, slices.Repeat([]api.Arg{num(1)}, 9)...), api.ErrArg},
		{ev(1, text("")), api.ErrType}, {ev(1, api.Arg{}), api.ErrType}, {ev(2, num(0)), api.ErrType}, {ev(2, api.Arg{Type: 3}), api.ErrType}, {ev(2, api.Arg{Type: -1}), api.ErrType}, {ev(1, api.Arg{Type: math.MaxInt}), api.ErrType}, {ev(1, api.Arg{Type: math.MinInt}), api.ErrType}, {ev(3, text("a"), num(1), num(1)), api.ErrType},
		{ev(1, api.Arg{Type: 1, N: 1, S: "a"}), api.ErrArg}, {ev(2, api.Arg{Type: 2, N: 1, S: "a"}), api.ErrArg}, {ev(2, api.Arg{Type: 2, N: -1}), api.ErrArg}, {ev(3, text("a"), num(1), api.Arg{Type: 2, N: math.MinInt64}), api.ErrArg}, {ev(1, api.Arg{Type: 1, S: long(201)}), api.ErrArg},
		{ev(2, text(long(201))), api.ErrLimit}, {ev(3, text("a"), num(1), text(long(300))), api.ErrLimit}, {ev(5, text(""), text(""), text(""), text(""), text(""), text(""), text(""), text(long(201))), api.ErrLimit},
	}
}

// No points: told first, whatever the signature is.
func TestNoPoints(t *testing.T) {
	for _, points := range [][]api.Point{nil, {}, make([]api.Point, 0, 9), make([]api.Point, 3)[:0]} {
		for _, l := range [][]api.Pred{nil, {}, few(), most()} {
			checkWrong(t, l, points, api.ErrArg)
		}
		for _, x := range wrongSignatures() {
			checkWrong(t, x.l, points, api.ErrArg)
		}
	}
}

// A signature that may not be is told ahead of all that is wrong with the points.
func TestWrongSignatures(t *testing.T) {
	for _, x := range wrongSignatures() {
		for _, points := range [][]api.Point{
			{at(0)}, {at(1, ev(0))}, {at(1, ev(1, num(1))), at(2)},
			{at(2), at(1)}, {at(0, ev(-1))}, {at(0, ev(math.MaxInt))}, {at(0, ev(1, text("a")))}, {at(0, ev(2, text(long(201))))},
			{at(0, make([]api.Event, 1025)...)}, make([]api.Point, 1025), tooLong(),
		} {
			checkWrong(t, x.l, points, x.want)
		}
	}
}

// tooLong are points of few whose payload has more than 4096 bytes.
func tooLong() []api.Point {
	return listed(slices.Repeat(short(500), 4), 500)
}

// stuffed are points of few, some of which stand ahead and behind another one.
func stuffed(ahead int, p api.Point, behind int) []api.Point {
	fill := func(time uint64) api.Point { return at(time, ev(1, num(1)), ev(2, text("a"))) }
	var points []api.Point
	for range ahead {
		points = append(points, fill(p.At))
	}
	points = append(points, p)
	for range behind {
		points = append(points, fill(p.At))
	}
	return points
}

// Each error of an event, at the first and at later points and events; ahead of too many points, and of too long a payload.
func TestWrongEvents(t *testing.T) {
	for _, x := range wrongEvents() {
		for _, events := range [][]api.Event{{x.e}, {x.e, ev(0), ev(77)}, {ev(0), x.e, ev(2, num(3))}, append(make([]api.Event, 1023), x.e)} {
			p := at(5, events...)
			for _, ahead := range []int{0, 1, 7, 1023, 1024, 1500} {
				checkWrong(t, few(), stuffed(ahead, p, 0), x.want)
				checkWrong(t, few(), stuffed(ahead, p, 3), x.want)
			}
			checkWrong(t, few(), append(tooLong(), at(9, events...)), x.want)
			checkWrong(t, few(), append([]api.Point{at(9, events...)}, tooLong()...), x.want)
		}
	}
}

// A time below the one ahead.
func TestWrongOrder(t *testing.T) {
	for _, ahead := range []int{0, 1, 2, 500, 1022, 1023, 1024, 3000} {
		for _, two := range [][]uint64{{1, 0}, {2, 1}, {128, 127}, {math.MaxUint64, 0}, {math.MaxUint64, math.MaxUint64 - 1}, {1 << 63, 1<<63 - 1}} {
			points := append(make([]api.Point, ahead), at(two[0]), at(two[1]))
			checkWrong(t, few(), points, api.ErrOrder)
			checkWrong(t, few(), append(points, at(two[0], ev(-1))), api.ErrOrder)
		}
	}
	checkWrong(t, few(), append(tooLong(), at(8)), api.ErrOrder)
	checkWrong(t, few(), []api.Point{at(1), at(0, ev(-1))}, api.ErrOrder)
	checkWrong(t, few(), []api.Point{at(1), at(0, make([]api.Event, 1025)...)}, api.ErrOrder)
	checkWrong(t, few(), []api.Point{at(1, ev(-1)), at(0)}, api.ErrName)
}

// Too many events are told ahead of what is wrong with one, and ahead of later points.
func TestTooManyEvents(t *testing.T) {
	for _, count := range []int{1025, 1026, 5000} {
		for _, ahead := range []int{0, 1, 1023, 1024} {
			checkWrong(t, few(), stuffed(ahead, at(5, make([]api.Event, count)...), 1), api.ErrLimit)
		}
		checkWrong(t, few(), []api.Point{at(5, slices.Repeat([]api.Event{ev(-1)}, count)...)}, api.ErrLimit)
		checkWrong(t, few(), []api.Point{at(5, make([]api.Event, count)...), at(4)}, api.ErrLimit)
		checkWrong(t, few(), []api.Point{at(5, ev(-1)), at(5, make([]api.Event, count)...)}, api.ErrName)
	}
	checkLong(t, few(), slices.Repeat([]api.Point{at(0, make([]api.Event, 1024)...)}, 1024), 1+2+1+1024*(2+1024)+1023)
}

// Too many points are told also where their payload would be too long, by Size, too.
func TestTooManyPoints(t *testing.T) {
	for _, count := range []int{1025, 1026, 3000} {
		checkWrong(t, few(), slices.Repeat([]api.Point{at(1, ev(2, text(long(200))))}, count), api.ErrLimit)
		checkWrong(t, few(), append(slices.Repeat([]api.Point{at(1, make([]api.Event, 9)...)}, count-1), at(math.MaxUint64)), api.ErrLimit)
	}
	checkLong(t, few(), slices.Repeat([]api.Point{at(1, ev(2, text(long(200))))}, 1024), 1+2+1+202+1024*3+1023)
	checkLong(t, few(), append(slices.Repeat([]api.Point{at(1, make([]api.Event, 9)...)}, 1023), at(math.MaxUint64)), 1+2+1+1023*10+1022+10+1)
}

// filled are points of few with more behind, so that the payload has just as many bytes as that.
func filled(t *testing.T, front []api.Point, size int) []api.Point {
	t.Helper()
	// At the greatest time, so that how far it is takes as many bytes whatever is ahead.
	points := append(slices.Clone(front), at(math.MaxUint64))
	for {
		last := &points[len(points)-1]
		missing := size - len(payloadOf(points))
		room := 100 - len(last.Events)
		switch {
		case missing == 0:
			return points
		case missing < 0:
			t.Fatalf("%s can't have %d bytes", brief(told(front)), size)
		case missing > 1 && room <= 0:
			points = append(points, at(math.MaxUint64))
		default:
			last.Events = append(last.Events, make([]api.Event, max(1, min(missing, room)))...)
		}
	}
}

// fronts are points of few of all sorts, with which a payload begins.
func fronts() [][]api.Point {
	return [][]api.Point{
		{at(0)}, {at(127)}, {at(128)}, {at(1 << 63)}, {at(math.MaxUint64)},
		{at(0), at(127)}, {at(0), at(128)}, {at(0), at(1 << 63)},
		{at(0, ev(1, num(63)))}, {at(0, ev(1, num(64)))}, {at(0, ev(4, num(0), num(-64), num(-65), num(math.MinInt64), num(math.MaxInt64), num(1), num(0), num(1<<40)))},
		{at(0, ev(2, text("")))}, {at(0, ev(2, text("a")))}, {at(0, ev(2, text(long(127))))}, {at(0, ev(2, text(long(128))), ev(2, text(long(200))))},
		{at(0, ev(3, text("a"), num(0), text("a")), ev(2, text("a"))), at(3, ev(2, text("a")))},
		{at(0, make([]api.Event, 127)...)}, {at(0, make([]api.Event, 128)...)}, {at(0, make([]api.Event, 1024)...)},
		make([]api.Point, 60), make([]api.Point, 200), make([]api.Point, 900),
		listed(short(127), 1), listed(short(128), 128), listed(slices.Repeat(short(130), 3), 130), listed(short(500), 100),
	}
}

// Payloads of just as many bytes as there may be, and of one more.
func TestHowManyBytes(t *testing.T) {
	for _, front := range fronts() {
		for _, size := range []int{4095, 4096} {
			points := filled(t, front, size)
			want := payloadOf(points)
			if len(want) != size {
				t.Fatalf("%d bytes, want %d", len(want), size)
			}
			checkPut(t, few(), points, want)
		}
		for _, size := range []int{4097, 4098, 8193} {
			checkLong(t, few(), filled(t, front, size), size)
		}
	}
}

// One byte more, wherever it comes from, makes a payload of 4096 bytes too long.
func TestOneByteMore(t *testing.T) {
	for _, x := range []struct{ less, more []api.Point }{
		{[]api.Point{at(127)}, []api.Point{at(128)}},
		{[]api.Point{at(16383)}, []api.Point{at(16384)}},
		{[]api.Point{at(0), at(127)}, []api.Point{at(0), at(128)}},
		{[]api.Point{at(0, ev(0))}, []api.Point{at(0, ev(0), ev(0))}},
		{[]api.Point{at(0, ev(0))}, []api.Point{at(0, ev(1, num(0)))}},
		{[]api.Point{at(0, ev(1, num(63)))}, []api.Point{at(0, ev(1, num(64)))}},
		{[]api.Point{at(0, ev(1, num(-64)))}, []api.Point{at(0, ev(1, num(-65)))}},
		{[]api.Point{at(0, ev(2, text("")))}, []api.Point{at(0, ev(2, text("a")))}},
		{[]api.Point{at(0, ev(2, text(long(199))))}, []api.Point{at(0, ev(2, text(long(200))))}},
		{[]api.Point{at(0, ev(3, text("a"), num(0), text("a")))}, []api.Point{at(0, ev(3, text("a"), num(0), text("")))}},
	} {
		points := filled(t, x.less, 4096)
		checkPut(t, few(), points, payloadOf(points))
		more := append(slices.Clone(x.more), points[len(x.less):]...)
		checkLong(t, few(), more, 4097)
	}
}

// Far too long payloads are counted, with texts and numbers of all sorts.
func TestSizeOfLongPayloads(t *testing.T) {
	var points []api.Point
	for i := range 1024 {
		n := int64(i) << (i % 50)
		points = append(points, at(uint64(i)<<40, ev(3, text(fmt.Sprint(i%300)), num(n), text(long(i%201))), ev(4, num(n), num(-n), num(n+1), num(-n-1), num(0), num(1), num(63), num(64)), ev(0), ev(2, text(fmt.Sprint(i)))))
		if i%60 == 0 || i == 1023 {
			checkOK(t, few(), points)
		}
	}
	args := slices.Repeat([]api.Arg{num(math.MaxInt64)}, 8)
	full := at(7, slices.Repeat([]api.Event{ev(4, args...)}, 1024)...)
	checkLong(t, few(), slices.Repeat([]api.Point{full}, 1024), 1+2+1+1023+1024*(2+1024*(1+8*10)))
}

// growing are rows of 1024 points of few.
func growing() map[string][]api.Point {
	row := func(point func(i int) api.Point) []api.Point {
		var points []api.Point
		for i := range 1024 {
			points = append(points, point(i))
		}
		return points
	}
	texts := short(1024)
	return map[string][]api.Point{
		"none":          row(func(i int) api.Point { return at(0) }),
		"greatest time": row(func(i int) api.Point { return at(math.MaxUint64) }),
		"times":         row(func(i int) api.Point { return at(uint64(i * i * i)) }),
		"empty event":   row(func(i int) api.Point { return at(3, ev(0)) }),
		"same text":     row(func(i int) api.Point { return at(3, ev(2, text("a"))) }),
		"empty text":    row(func(i int) api.Point { return at(3, ev(2, text(""))) }),
		"own text":      row(func(i int) api.Point { return at(3, ev(2, text(texts[i]))) }),
		"text at times": row(func(i int) api.Point {
			if i%5 > 0 {
				return at(uint64(i))
			}
			return at(uint64(i), ev(1, num(int64(i))), ev(3, text(texts[i]), num(-1), text(texts[i/2])))
		}),
		"texts again": row(func(i int) api.Point { return at(9, ev(2, text(texts[i%130])), ev(2, text(texts[i*7%150]))) }),
		"many events": row(func(i int) api.Point { return at(9, make([]api.Event, i%200)...) }),
	}
}

// With a point more behind, the payload has more bytes: up to 4096 and above, across 127 and 128 points.
func TestMorePointsMoreBytes(t *testing.T) {
	for name, points := range growing() {
		before := 0
		for count := 1; count <= len(points); count++ {
			size, e := Size(few(), points[:count])
			if e != api.OK || size <= before {
				t.Fatalf("%s: %d points have %d bytes, %d, and one less %d", name, count, size, e, before)
			}
			before = size
			if count%32 <= 1 {
				checkOK(t, few(), points[:count])
			}
		}
	}
}

// The least point there is, behind any points: at the same time, without events.
func TestLeastPointMore(t *testing.T) {
	for name, points := range growing() {
		for _, count := range []int{1, 2, 63, 64, 126, 127, 128, 129, 300, 1022, 1023} {
			size, e := Size(few(), points[:count])
			more, moreE := Size(few(), append(slices.Clone(points[:count]), at(points[count-1].At)))
			want := 2
			if count == 127 {
				want = 3
			}
			if e != api.OK || moreE != api.OK || more != size+want {
				t.Errorf("%s: %d points have %d bytes, %d, and with one more %d, %d", name, count, size, e, more, moreE)
			}
		}
	}
}

// A point of any sort, behind any points, makes the payload longer.
func TestAnyPointMore(t *testing.T) {
	points := []api.Point{at(0), at(0, ev(0)), at(0, ev(2, text(""))), at(0, ev(2, text("new"))), at(0, ev(3, text("new"), num(0), text("newer"))), at(0, ev(1, num(math.MinInt64)))}
	for _, front := range fronts() {
		size, e := Size(few(), front)
		for _, p := range points {
			for _, later := range []uint64{0, 1, 127, 128} {
				p.At = front[len(front)-1].At
				if later > math.MaxUint64-p.At {
					continue
				}
				p.At += later
				longer := append(slices.Clone(front), p)
				more, moreE := Size(few(), longer)
				if e != api.OK || moreE != api.OK || more <= size {
					t.Errorf("%s has %d bytes, %d, and with %s behind %d, %d", brief(told(front)), size, e, told([]api.Point{p}), more, moreE)
				}
				checkOK(t, few(), longer)
			}
		}
	}
}

// crowded are points, and a signature, whose lists have room behind their ends, in which something stands.
func crowded() ([]api.Pred, []api.Point) {
	types := []int{2, 1, 2, 7, 8, 9}
	l := []api.Pred{pred("q"), {Name: "b", Args: types[:3]}, {Name: "s", Args: types[2:3]}, pred("9", 5)}[:3]
	args := []api.Arg{text("a"), num(5), text("b"), text("behind"), num(-1), text("far behind"), text("b")}
	points := []api.Point{
		at(3, ev(1, args[:3]...), ev(2, args[6:]...), ev(9, args...)),
		at(3, ev(2, args[:1]...), ev(1, args[2:5]...)),
		at(300, ev(2, args[6:]...), ev(9)),
		at(1, ev(-1)),
	}
	points[0].Events = points[0].Events[:2]
	points[1].Events[1].Args = append(args[2:3:3], num(7), text(""))
	points[2].Events = points[2].Events[:1]
	return l, points[:3]
}

// crowdedPayload is the payload of crowded's points, by hand.
const crowdedPayload = "\x03\x03\x03\x01a\x01b\x00" + "\x02\x01\x00\x0a\x01\x02\x01" + "\x00\x02\x02\x00\x01\x01\x0e\x02" + "\xa9\x02\x01\x02\x01"

// whole is a signature and points, with all that is behind the ends of their lists.
func whole(l []api.Pred, points []api.Point) string {
	var all strings.Builder
	for _, p := range l[:cap(l)] {
		fmt.Fprintf(&all, "%q%v;", p.Name, p.Args[:cap(p.Args)])
	}
	for _, p := range points[:cap(points)] {
		fmt.Fprintf(&all, "@%d", p.At)
		for _, e := range p.Events[:cap(p.Events)] {
			fmt.Fprintf(&all, " %d%+q", e.Pred, fmt.Sprint(e.Args[:cap(e.Args)]))
		}
	}
	return all.String()
}

// What is handed in stays as it was, and what is behind the ends of its lists isn't gone to.
func TestLeavesWhatIsHandedIn(t *testing.T) {
	l, points := crowded()
	was := whole(l, points)
	for range 3 {
		checkPut(t, l, points, crowdedPayload)
		checkWrong(t, l, points[:4], api.ErrOrder)
		checkWrong(t, l[:4], points, api.ErrName)
		checkWrong(t, l, points[:0], api.ErrArg)
	}
	if now := whole(l, points); now != was {
		t.Errorf("what was handed in is %s, was %s", now, was)
	}
}

// Whoever writes into what was handed in changes nothing of what was answered; and what is answered then is of what stands there then.
func TestKeepsNothing(t *testing.T) {
	l, points := crowded()
	payload, _ := Put(l, points)
	framed, _ := Frame(l, points)
	points[0].Events[0].Args[0] = text("c")
	checkPut(t, l, points, payloadOf(points))
	points[0].At = 0
	checkPut(t, l, points, payloadOf(points))
	l[1].Args[1] = 2
	checkWrong(t, l, points, api.ErrType)
	for i := range points {
		for k := range points[i].Events {
			clear(points[i].Events[k].Args)
		}
		clear(points[i].Events)
	}
	clear(points)
	clear(l)
	if string(payload) != crowdedPayload || string(framed) != frameOf(crowdedPayload) {
		t.Errorf("what was answered became %q, %q", payload, framed)
	}
}

// spoil writes over bytes, and behind them as far as there is room.
func spoil(b []byte) {
	b = b[:cap(b)]
	for i := range b {
		b[i] = 9
	}
}

// What is answered is new memory, as far as there is room behind it.
func TestAnswersNewMemory(t *testing.T) {
	for _, front := range fronts() {
		want := payloadOf(front)
		if len(want) > 4096 {
			continue
		}
		payload, _ := Put(few(), front)
		framed, _ := Frame(few(), front)
		for range 2 {
			other, _ := Put(few(), front)
			spoil(other)
			other, _ = Frame(few(), front)
			spoil(other)
			checkPut(t, few(), front, want)
		}
		if string(payload) != want || string(framed) != frameOf(want) {
			t.Errorf("with other answers written into, the first ones are %q, %q", brief(string(payload)), brief(string(framed)))
		}
		spoil(payload)
		if string(framed) != frameOf(want) {
			t.Errorf("with the payload written into, the frame is %q", brief(string(framed)))
		}
		checkPut(t, few(), front, want)
	}
}

// A nil list is the same as an empty one.
func TestNilAndEmpty(t *testing.T) {
	for _, l := range [][]api.Pred{{pred("q")}, {{Name: "q", Args: []int{}}}} {
		for _, events := range [][]api.Event{{{}}, {{Args: []api.Arg{}}}} {
			checkPut(t, l, []api.Point{{Events: events}, {}, {Events: []api.Event{}}}, "\x00\x03\x00\x01\x00\x00\x00\x00\x00")
		}
	}
	for _, l := range [][]api.Pred{nil, {}} {
		checkPut(t, l, []api.Point{{At: 1}, {At: 2, Events: []api.Event{}}}, "\x01\x02\x00\x00\x01\x00")
	}
}

// An answer hangs on what was handed in alone, not on the calls ahead.
func TestHangsOnNothingElse(t *testing.T) {
	for range 3 {
		checkPut(t, few(), []api.Point{at(5, ev(2, text("a")))}, "\x05\x01\x01\x01a\x01\x02\x00")
		checkWrong(t, few(), nil, api.ErrArg)
		checkPut(t, few(), []api.Point{at(5, ev(2, text("b")), ev(2, text("a")))}, "\x05\x01\x02\x01b\x01a\x02\x02\x00\x02\x01")
		checkWrong(t, few(), make([]api.Point, 1025), api.ErrLimit)
		checkLong(t, few(), listed(slices.Repeat([]string{"a"}, 2048), 1024), 1+1+1+2+2+2*1024+1+2+2*1024)
		checkWrong(t, few(), []api.Point{at(5, ev(2, text("c")), ev(2))}, api.ErrArg)
		checkPut(t, few(), []api.Point{at(5, ev(2, text("c")))}, "\x05\x01\x01\x01c\x01\x02\x00")
	}
}
