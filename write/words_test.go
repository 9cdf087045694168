package write_test

import (
	"encoding/binary"
	"fmt"
	"hash/crc32"
	"math"
	"slices"
	"strings"
	"testing"

	"tachograph/api"
	"tachograph/block"
	"tachograph/cut"
	"tachograph/sigbin"
)

// pred is a predicate of a name and arguments' types.
func pred(name string, args ...int) api.Pred {
	return api.Pred{Name: name, Args: args}
}

// num and text are arguments of the two types.
func num(n int64) api.Arg { return api.Arg{Type: 1, N: n} }

func text(s string) api.Arg { return api.Arg{Type: 2, S: s} }

// ev is an event of a predicate's number and arguments.
func ev(p int, args ...api.Arg) api.Event {
	return api.Event{Pred: p, Args: args}
}

// at is a point of a time and events.
func at(time uint64, events ...api.Event) api.Point {
	return api.Point{At: time, Events: events}
}

// long is a text of some size.
func long(size int) string { return strings.Repeat("x", size) }

// few is a signature of predicates with none, one and more arguments.
func few() []api.Pred {
	return []api.Pred{pred("q"), pred("p", 1), pred("s", 2), pred("b", 2, 1, 2), pred("i", 1, 1, 1, 1, 1, 1, 1, 1), pred("t", 2, 2, 2, 2, 2, 2, 2, 2)}
}

// fewPayload is few's payload, by hand.
const fewPayload = "\x06" + "\x01q\x00" + "\x01p\x01\x01" + "\x01s\x01\x02" + "\x01b\x03\x02\x01\x02" + "\x01i\x08\x01\x01\x01\x01\x01\x01\x01\x01" + "\x01t\x08\x02\x02\x02\x02\x02\x02\x02\x02"

// number are a number's bytes, by the library.
func number[N int | uint64](n N) string { return string(binary.AppendUvarint(nil, uint64(n))) }

// whole are the bytes of a frame, by the library.
func whole(kind byte, payload string) string {
	body := string(kind) + number(len(payload)) + payload
	return "\xc7TG\x01" + body + string(binary.LittleEndian.AppendUint32(nil, crc32.ChecksumIEEE([]byte(body))))
}

// plain is a point of few without texts, whose events, with how many they are, have just so many bytes: 1 to 4096.
func plain(time uint64, size int) api.Point {
	least := num(math.MinInt64)
	eight := slices.Repeat([]api.Event{ev(4, least, least, least, least, least, least, least, least)}, (size-1)/81)
	one := slices.Repeat([]api.Event{ev(1, least)}, (size-1)%81/11)
	none := slices.Repeat([]api.Event{ev(0)}, (size-1)%81%11)
	return at(time, slices.Concat(eight, one, none)...)
}

// names are texts of 200 bytes, no two of which are the same.
func names(count int) []string {
	var l []string
	for i := range count {
		l = append(l, fmt.Sprintf("%03d", i)+long(197))
	}
	return l
}

// listing is a point of few that has texts in order, one an event.
func listing(time uint64, texts ...string) api.Point {
	p := at(time)
	for _, s := range texts {
		p.Events = append(p.Events, ev(2, text(s)))
	}
	return p
}

// tooGreat is a point of few that has just a byte more alone than there may be.
func tooGreat(time uint64) api.Point {
	return plain(time, 4096-len(number(time))-2+1)
}

// lateText is a point of few that has as many bytes as that alone, and far fewer behind another one, which is answered, too: the text that it has most often, which comes last in it, has a shorter number there.
func lateText(size int) (api.Point, api.Point) {
	p := at(0)
	for i := range 128 {
		p.Events = append(p.Events, ev(2, text(string([]byte{byte(i + 100)}))))
	}
	for range 800 {
		p.Events = append(p.Events, ev(2, text("late")))
	}
	for i := 0; ; i++ {
		alone, _ := block.Size(few(), []api.Point{p})
		missing := size - alone
		if missing <= 0 {
			return p, listing(0, "late")
		}
		p.Events[i].Args[0].S += long(min(missing, 100))
	}
}

// wrongSignatures may not be, and why.
func wrongSignatures() []struct {
	l    []api.Pred
	want api.Errno
} {
	return []struct {
		l    []api.Pred
		want api.Errno
	}{
		{make([]api.Pred, 65), api.ErrLimit},
		{[]api.Pred{{}}, api.ErrName},
		{[]api.Pred{pred("9", 1)}, api.ErrName},
		{[]api.Pred{pred(long(33), 1)}, api.ErrName},
		{append(few(), pred("p", 1)), api.ErrName},
		{append(few(), pred("wide", 1, 1, 1, 1, 1, 1, 1, 1, 1)), api.ErrLimit},
		{append(few(), pred("strange", 3)), api.ErrType},
		{append(few(), pred("strange", 1, -1)), api.ErrType},
	}
}

// wrongEvents are events that aren't few's, and why.
func wrongEvents() []struct {
	e    api.Event
	want api.Errno
} {
	return []struct {
		e    api.Event
		want api.Errno
	}{
		{ev(-1), api.ErrName}, {ev(6), api.ErrName}, {ev(math.MinInt), api.ErrName}, {ev(math.MaxInt), api.ErrName},
		{ev(0, num(1)), api.ErrArg}, {ev(1), api.ErrArg}, {ev(1, num(1), num(1)), api.ErrArg}, {ev(4, slices.Repeat([]api.Arg{num(1)}, 9)...), api.ErrArg},
		{ev(1, text("")), api.ErrType}, {ev(2, num(0)), api.ErrType}, {ev(1, api.Arg{}), api.ErrType}, {ev(2, api.Arg{Type: 3}), api.ErrType}, {ev(3, text("a"), num(1), num(1)), api.ErrType},
		{ev(1, api.Arg{Type: 1, N: 1, S: "a"}), api.ErrArg}, {ev(2, api.Arg{Type: 2, N: -1, S: "a"}), api.ErrArg}, {ev(1, api.Arg{Type: 1, S: long(201)}), api.ErrArg},
		{ev(2, text(long(201))), api.ErrLimit}, {ev(3, text("a"), num(1), text(long(300))), api.ErrLimit},
	}
}

// mosts are numbers that a block's points may be held to, small and great ones.
func mosts() []int {
	return []int{1, 2, 3, 1023, 1024, 1025, 2048, 1 << 31, 1 << 32, math.MaxInt - 1, math.MaxInt}
}

// noMosts are numbers below 1.
func noMosts() []int {
	return []int{0, -1, -2, -1024, -1 << 31, -1 << 32, math.MinInt + 1, math.MinInt}
}

// parted are the sizes of blocks of so many points, if none but the most there may be ends one.
func parted(count, most int) []int {
	var sizes []int
	for ; count > most; count -= most {
		sizes = append(sizes, most)
	}
	if count > 0 {
		sizes = append(sizes, count)
	}
	return sizes
}

// spaced are so many points without events, from a time on, each as much above the one ahead.
func spaced(count int, from, more uint64) []api.Point {
	var points []api.Point
	for i := range count {
		points = append(points, at(from+uint64(i)*more))
	}
	return points
}

// spacedFrames are the frames of such points in blocks of some sizes, by hand, behind that of a signature's payload.
func spacedFrames(head string, from, more uint64, sizes ...int) []string {
	frames := []string{whole(1, head)}
	for _, size := range sizes {
		frames = append(frames, whole(2, number(from)+number(size)+"\x00\x00"+strings.Repeat(number(more)+"\x00", size-1)))
		from += uint64(size) * more
	}
	return frames
}

// sizedFrames are the frames of a signature and of points in blocks of some sizes, by layers 11 and 14.
func sizedFrames(t *testing.T, l []api.Pred, points []api.Point, sizes ...int) []string {
	t.Helper()
	var blocks [][]api.Point
	for _, size := range sizes {
		blocks = append(blocks, points[:size])
		points = points[size:]
	}
	if len(points) > 0 {
		t.Fatalf("%d points are in no block", len(points))
	}
	return blockFrames(t, l, blocks)
}

// blockFrames are the frames of a signature and blocks, by layers 11 and 14.
func blockFrames(t *testing.T, l []api.Pred, blocks [][]api.Point) []string {
	t.Helper()
	head, e := sigbin.Frame(l)
	if e != api.OK {
		t.Fatalf("layer 11 has error %d", e)
	}
	frames := []string{string(head)}
	for _, points := range blocks {
		b, e := block.Frame(l, points)
		if e != api.OK {
			t.Fatalf("layer 14 has error %d of a block of %d points", e, len(points))
		}
		frames = append(frames, string(b))
	}
	return frames
}

// cutFrames are the frames of a signature and a trace, by layers 11, 14 and 16.
func cutFrames(t *testing.T, l []api.Pred, points []api.Point, most int) []string {
	t.Helper()
	blocks, e := cut.Blocks(l, points, most)
	if e != api.OK {
		t.Fatalf("layer 16 has error %d of %s", e, brief(points))
	}
	return blockFrames(t, l, blocks)
}

// lists are all lists of up to so many of some.
func lists[T any](of []T, most int) [][]T {
	all := [][]T{nil}
	for i := 0; i < len(all); i++ {
		if len(all[i]) < most {
			for _, x := range of {
				all = append(all, append(slices.Clone(all[i]), x))
			}
		}
	}
	return all
}

// later are points whose times go on by what was theirs.
func later(steps []api.Point) []api.Point {
	points := slices.Clone(steps)
	for i := 1; i < len(points); i++ {
		points[i].At += points[i-1].At
	}
	return points
}

// told are points, so that no two that aren't the same are told alike.
func told(t []api.Point) string {
	var b strings.Builder
	for _, p := range t {
		fmt.Fprintf(&b, "@%d", p.At)
		for _, e := range p.Events {
			fmt.Fprintf(&b, " %d%+q", e.Pred, fmt.Sprint(e.Args))
		}
		b.WriteString(";")
	}
	return b.String()
}

// brief is the front of what is told, so that a failure can be read.
func brief(points []api.Point) string {
	s := told(points[:min(len(points), 20)])
	return fmt.Sprintf("%d points, %s", len(points), s[:min(len(s), 300)])
}

// short is the front of bytes, likewise.
func short(b string) string {
	return fmt.Sprintf("%d bytes, %x", len(b), b[:min(len(b), 60)])
}

// crowded are a signature and points whose lists have room behind their ends, in which something stands.
func crowded() ([]api.Pred, []api.Point) {
	types := []int{2, 1, 2, 7, 8, 9}
	l := []api.Pred{pred("q"), {Name: "b", Args: types[:3]}, {Name: "s", Args: types[2:3]}, pred("9", 5)}[:3]
	args := []api.Arg{text("a"), num(5), text("b"), text("behind"), num(-1), text("far behind"), text("b")}
	points := []api.Point{
		at(3, ev(1, args[:3]...), ev(2, args[6:]...), ev(9, args...)),
		at(3, ev(2, args[:1]...), ev(1, args[2:5]...)),
		at(300, ev(2, args[6:]...), ev(9)),
		at(1, ev(-1)),
	}
	points[0].Events = points[0].Events[:2]
	points[1].Events[1].Args = append(args[2:3:3], num(7), text(""))
	points[2].Events = points[2].Events[:1]
	return l, points[:3]
}

// crowdedFrames are the frames of crowded's points, at most two in a block, by hand.
func crowdedFrames() []string {
	return []string{
		whole(1, "\x03"+"\x01q\x00"+"\x01b\x03\x02\x01\x02"+"\x01s\x01\x02"),
		whole(2, "\x03\x02"+"\x03\x01a\x01b\x00"+"\x02"+"\x01\x00\x0a\x01"+"\x02\x01"+"\x00\x02"+"\x02\x00"+"\x01\x01\x0e\x02"),
		whole(2, "\xac\x02\x01"+"\x01\x01b"+"\x01"+"\x02\x00"),
	}
}

// room is a signature and points, with all that is behind the ends of their lists.
func room(l []api.Pred, points []api.Point) string {
	var all strings.Builder
	for _, p := range l[:cap(l)] {
		fmt.Fprintf(&all, "%q%v;", p.Name, p.Args[:cap(p.Args)])
	}
	for _, p := range points[:cap(points)] {
		fmt.Fprintf(&all, "@%d", p.At)
		for _, e := range p.Events[:cap(p.Events)] {
			fmt.Fprintf(&all, " %d%+q", e.Pred, fmt.Sprint(e.Args[:cap(e.Args)]))
		}
	}
	return all.String()
}

// spoil writes over points, and behind them as far as there is room.
func spoil(points []api.Point) {
	points = points[:cap(points)]
	for i := range points {
		events := points[i].Events[:cap(points[i].Events)]
		for k := range events {
			args := events[k].Args[:cap(events[k].Args)]
			for m := range args {
				args[m] = api.Arg{Type: 9, N: 9, S: "spoilt"}
			}
			events[k] = api.Event{Pred: -9}
		}
		points[i] = api.Point{At: 9}
	}
}

// spoilPreds writes over a signature, likewise.
func spoilPreds(l []api.Pred) {
	l = l[:cap(l)]
	for i := range l {
		args := l[i].Args[:cap(l[i].Args)]
		for k := range args {
			args[k] = 9
		}
		l[i] = pred("spoilt", 1)
	}
}

// spoilBytes writes over bytes, likewise.
func spoilBytes(b []byte) {
	b = b[:cap(b)]
	for i := range b {
		b[i] = 0xee
	}
}
