package read_test

import (
	"fmt"
	"math"
	"slices"
	"strings"
	"testing"

	"tachograph/api"
	"tachograph/read"
	"tachograph/segs"
)

// checkTaker holds what a taker has read of parts.
func checkTaker(t *testing.T, name string, k *read.Taker, parts []api.Seg) {
	t.Helper()
	g := k.Got()
	checkGot(t, name, g, modelOf(parts))
	checkRight(t, name, g)
}

// checkTaken holds a new taker that is handed parts at once, and one that is handed them one at a time.
func checkTaken(t *testing.T, name string, want api.Got, parts ...api.Seg) {
	t.Helper()
	k, one := read.New(), read.New()
	k.Take(parts)
	checkGot(t, name, k.Got(), want)
	checkTaker(t, name+" (model)", k, parts)
	for i := range parts {
		one.Take(parts[i : i+1])
	}
	checkGot(t, name+", one at a time", one.Got(), want)
}

// A taker that took nothing has read nothing, however often nothing is handed to it.
func TestNew(t *testing.T) {
	k := read.New()
	for range 3 {
		checkGot(t, "New", k.Got(), api.Got{})
		k.Take(nil)
		k.Take([]api.Seg{})
		k.Take(framesOf("")[:0])
	}
	checkGot(t, "New", read.New().Got(), api.Got{})
	k.Take(segs.Of([]byte(head(few()...))))
	checkGot(t, "with a signature", k.Got(), api.Got{Schema: few(), Frames: 1})
}

// framesOf are parts with something behind their end.
func framesOf(b string) []api.Seg {
	parts := segs.Of([]byte(b))
	return append(parts, framePart(len(b), 9, 2, "\x09"), api.Seg{N: 77})[:len(parts)]
}

// A frame of any other kind is refused, whatever its payload is.
func TestOtherKinds(t *testing.T) {
	own := framePart(0, 30, 1, fewPayload)
	points := framePart(50, 14, 2, "\x05\x01\x00\x00")
	five := []api.Point{at(5)}
	for _, kind := range []int{0, 3, -1, -2, 4, 255, 256, 257, 258, 1 << 32, 1<<32 + 1, 1<<32 + 2, math.MinInt, math.MinInt + 1, math.MinInt + 2, math.MaxInt, math.MaxInt - 1} {
		for _, payload := range []string{"", "\x00", "\x01", fewPayload, "\x05\x01\x00\x00", "\x05\x00", long(5000)} {
			name := fmt.Sprintf("the kind %d with %s", kind, short(payload))
			strange := framePart(40, 10, kind, payload)
			form := api.Reject{At: 40, Why: api.ErrForm}
			checkTaken(t, name, api.Got{Rejects: []api.Reject{form}}, strange)
			checkTaken(t, name, api.Got{Schema: few(), Points: five, Frames: 2, Rejects: []api.Reject{form}}, own, strange, points)
			checkTaken(t, name, api.Got{Schema: few(), Points: five, Skipped: 3, Frames: 3, Rejects: []api.Reject{form, {At: 50, Why: api.ErrNone}, form, form}}, strange, points, own, strange, api.Seg{From: 1, N: 3}, points, own, strange)
		}
	}
}

// A part that isn't a frame is skipped, with as many bytes as it tells, whatever it tells beside that.
func TestAnySkippedParts(t *testing.T) {
	own, points := framePart(0, 30, 1, fewPayload), framePart(50, 14, 2, "\x05\x01\x00\x00")
	for _, n := range []int{0, 1, 2, 77, 4096, 1 << 31, 1 << 40, -1, -2, -77, -1 << 31, math.MinInt, math.MinInt + 1, math.MaxInt, math.MaxInt - 1} {
		for _, from := range []int{0, 1, 99, -1, math.MinInt, math.MaxInt} {
			for _, f := range []api.Frame{{}, {Kind: 1, Payload: []byte(fewPayload)}, {Kind: 2, Payload: []byte("\x05\x01\x00\x00")}, {Kind: 9}, {Kind: math.MinInt, Payload: []byte(long(5000))}} {
				name := fmt.Sprintf("a part of %d from %d on, of the kind %d", n, from, f.Kind)
				part := api.Seg{From: from, N: n, Frame: f}
				checkTaken(t, name, api.Got{Skipped: n}, part)
				checkTaken(t, name, api.Got{Skipped: n, Rejects: []api.Reject{{At: 50, Why: api.ErrNone}}}, part, points)
				checkTaken(t, name, api.Got{Schema: few(), Points: []api.Point{at(5)}, Skipped: n, Frames: 2}, own, part, points)
				checkTaken(t, name, api.Got{Schema: few(), Points: []api.Point{at(5)}, Skipped: n + n + 5, Frames: 2}, part, own, api.Seg{N: 5}, points, part)
			}
		}
	}
	checkTaken(t, "more and fewer", api.Got{Skipped: 3}, api.Seg{N: math.MaxInt}, api.Seg{N: 7}, api.Seg{N: math.MinInt}, api.Seg{N: -3}, api.Seg{})
}

// A part that is a frame is one, wherever it is told to begin, and however long it is told to be.
func TestAnyFrameParts(t *testing.T) {
	numbers := []int{0, 1, 5, -1, -77, 1 << 31, 1 << 40, math.MinInt, math.MaxInt}
	for _, from := range numbers {
		for _, n := range numbers {
			name := fmt.Sprintf("frames from %d on, of %d", from, n)
			own, points := framePart(from, n, 1, fewPayload), framePart(from, n, 2, "\x05\x01\x00\x00")
			checkTaken(t, name, api.Got{Schema: few(), Points: []api.Point{at(5), at(5)}, Frames: 4}, own, points, own, points)
			checkTaken(t, name, api.Got{Schema: few(), Frames: 1, Rejects: []api.Reject{{At: from, Why: api.ErrNone}, {At: from, Why: api.ErrShort}, {At: from, Why: api.ErrType}, {At: from, Why: api.ErrForm}}},
				points, own, framePart(from, n, 2, "\x05"), framePart(from, n, 1, "\x00"), framePart(from, n, 2, "\x05\x00"))
		}
	}
	// Places need not rise.
	checkTaken(t, "places that fall", api.Got{Rejects: []api.Reject{{At: 9, Why: api.ErrNone}, {At: -9, Why: api.ErrNone}, {At: 9, Why: api.ErrNone}}},
		framePart(9, 1, 2, ""), framePart(-9, 1, 2, ""), framePart(9, 1, 2, ""))
}

// Payloads that no frame has, as they are too long: they have the errors of layers 11 and 15.
func TestLongPayloads(t *testing.T) {
	own := framePart(0, 1, 1, fewPayload)
	full := "\x05\x01\x00" + number(1024) + strings.Repeat("\x01\xff\xff\x01", 1000) + strings.Repeat("\x00", 24)
	if len(full) != 4029 {
		t.Fatalf("%d bytes", len(full))
	}
	long := "\x05\x01\x00" + number(1024) + strings.Repeat("\x01\xff\xff\x01", 1024)
	var events []api.Event
	for i := range 1024 {
		if i < 1000 {
			events = append(events, ev(1, num(-16384)))
		} else {
			events = append(events, ev(0))
		}
	}
	checkTaken(t, "nearly too long", api.Got{Schema: few(), Points: []api.Point{at(5, events...)}, Frames: 2}, own, framePart(3, 1, 2, full))
	checkTaken(t, "too long", api.Got{Schema: few(), Frames: 1, Rejects: []api.Reject{{At: 3, Why: api.ErrLimit}}}, own, framePart(3, 1, 2, long))
	checkTaken(t, "too long, and none", api.Got{Rejects: []api.Reject{{At: 3, Why: api.ErrNone}}}, framePart(3, 1, 2, long))
	checkTaken(t, "bytes behind", api.Got{Rejects: []api.Reject{{At: 3, Why: api.ErrForm}}}, framePart(3, 1, 1, fewPayload+strings.Repeat("\x00", 5000)))
}

// someBytes are bytes whose parts are of all sorts.
func someBytes() []string {
	own, five, six := head(few()...), events(at(5, ev(2, text("a")))), events(at(6), at(6, ev(1, num(-1))))
	all := []string{
		"", own, own + five, own + five + six + five, "\x00" + five + own + six + five + own + "\x00" + six + whole(1, "\x01") + head() + six[:9],
		five + five + whole(1, "\x01") + own + own + whole(2, "\x05\x00") + six, head() + events(at(1)) + own + events(at(1)) + events(at(0)) + head() + five,
	}
	for seed := range int64(40) {
		all = append(all, newDrawer(seed).row())
	}
	return all
}

// Parts handed in at once, one at a time, in all ways of two and three pieces, with empty handings in between, and Got in between, are read as they are at once.
func TestPieces(t *testing.T) {
	t.Parallel()
	for i, b := range someBytes() {
		parts := segs.Of([]byte(b))
		want := read.Of([]byte(b))
		checkTaken(t, fmt.Sprintf("the row %d", i), want, parts...)
		for from := range len(parts) + 1 {
			for to := from; to <= len(parts); to++ {
				name := fmt.Sprintf("the row %d, cut at %d and %d", i, from, to)
				k, asked := read.New(), read.New()
				for n, piece := range [][]api.Seg{parts[:from], parts[from:to], parts[to:]} {
					k.Take(piece)
					checkTaker(t, name, asked, parts[:[]int{0, from, to}[n]])
					asked.Take(nil)
					asked.Take(piece)
					asked.Take([]api.Seg{})
					asked.Got()
				}
				checkGot(t, name, k.Got(), want)
				checkGot(t, name+", asked", asked.Got(), want)
			}
		}
	}
}

// Behind each part what was read is what is read of all parts up to there.
func TestEachPart(t *testing.T) {
	t.Parallel()
	for seed := range int64(100) {
		parts := segs.Of([]byte(newDrawer(seed).row()))
		k := read.New()
		for i := range parts {
			k.Take(parts[i : i+1])
			checkTaker(t, fmt.Sprintf("the seed %d, up to the part %d", seed, i), k, parts[:i+1])
		}
	}
}

// Parts drawn from fixed seeds that are no bytes' parts: out of order, left out, again, and of any numbers and kinds, against the model.
func TestDrawnParts(t *testing.T) {
	t.Parallel()
	numbers := []int{0, 1, -1, 7, math.MinInt, math.MaxInt}
	for seed := range int64(1000) {
		d := newDrawer(seed)
		all := segs.Of([]byte(d.row() + d.row()))
		k := read.New()
		var parts []api.Seg
		for range d.Intn(20) {
			part := api.Seg{From: numbers[d.Intn(6)], N: numbers[d.Intn(6)], Is: d.Intn(2) == 0}
			if len(all) > 0 && d.Intn(5) > 0 {
				part = all[d.Intn(len(all))]
			}
			if d.Intn(8) == 0 {
				part.Frame.Kind = d.Intn(5) - 1
			}
			if d.Intn(8) == 0 {
				part.Is = !part.Is
			}
			parts = append(parts, part)
			k.Take([]api.Seg{part})
		}
		name := fmt.Sprintf("the seed %d", seed)
		checkTaker(t, name, k, parts)
		checkTaken(t, name, k.Got(), parts...)
	}
}

// spoil writes over all lists of what was read, and behind them as far as there is room.
func spoil(g api.Got) {
	l := g.Schema[:cap(g.Schema)]
	for i := range l {
		spoilList(l[i].Args, 9)
		l[i] = pred("spoilt", 1)
	}
	points := g.Points[:cap(g.Points)]
	for i := range points {
		events := points[i].Events[:cap(points[i].Events)]
		for k := range events {
			spoilList(events[k].Args, api.Arg{Type: 9, N: 9, S: "spoilt"})
		}
		spoilList(events, api.Event{Pred: -9})
	}
	spoilList(points, api.Point{At: 9})
	spoilList(g.Rejects, api.Reject{At: 9, Why: 9})
}

// spoilList writes over a list, and behind it as far as there is room.
func spoilList[T any](l []T, by T) {
	l = l[:cap(l)]
	for i := range l {
		l[i] = by
	}
}

// spoilParts writes over parts and their payloads, likewise.
func spoilParts(parts []api.Seg) {
	for _, part := range parts[:cap(parts)] {
		spoilList(part.Frame.Payload, 0xee)
	}
	spoilList(parts, framePart(9, 9, 1, "\x00"))
}

// toldParts are parts, with all that is behind the ends of their lists.
func toldParts(parts []api.Seg) string {
	var b strings.Builder
	for _, part := range parts[:cap(parts)] {
		payload := part.Frame.Payload
		fmt.Fprintf(&b, "%d %d %t %d %x %d;", part.From, part.N, part.Is, part.Frame.Kind, payload[:cap(payload)], len(payload))
	}
	return b.String()
}

// Parts that are handed in stay as they were, with their payloads, and with what is behind their ends, which isn't gone to.
func TestTakeLeavesParts(t *testing.T) {
	for i, b := range someBytes() {
		parts := framesOf(b)
		for k := range parts {
			payload := parts[k].Frame.Payload
			parts[k].Frame.Payload = append(slices.Clone(payload), "\x00\x00\x05"...)[:len(payload)]
		}
		was := toldParts(parts)
		k := read.New()
		k.Take(parts)
		g := k.Got()
		if now := toldParts(parts); now != was {
			t.Errorf("the row %d: what was handed in is %s, was %s", i, now, was)
		}
		checkGot(t, fmt.Sprintf("the row %d", i), g, read.Of([]byte(b)))
	}
}

// Parts and payloads that are written into behind Take change nothing.
func TestTakeKeepsNothing(t *testing.T) {
	for i, b := range someBytes() {
		name := fmt.Sprintf("the row %d", i)
		want := read.Of([]byte(b))
		all, one := read.New(), read.New()
		parts := framesOf(b)
		all.Take(parts)
		spoilParts(parts)
		checkGot(t, name, all.Got(), want)
		room := make([]api.Seg, 1)
		bytes := make([]byte, 0, 5000)
		for _, part := range segs.Of([]byte(b)) {
			bytes = append(bytes[:0], part.Frame.Payload...)
			room[0] = part
			room[0].Frame.Payload = bytes
			one.Take(room)
			spoilParts(room)
		}
		checkGot(t, name+", all in the same memory", one.Got(), want)
	}
}

// What is answered is new memory: whoever writes into it, or behind it, changes nothing of what is answered later, nor of what was answered ahead.
func TestGotIsNewMemory(t *testing.T) {
	for i, b := range someBytes() {
		parts := segs.Of([]byte(b))
		k := read.New()
		var kept []api.Got
		var was []string
		for n, part := range parts {
			k.Take([]api.Seg{part})
			g := k.Got()
			kept, was = append(kept, g), append(was, told(g))
			spoil(k.Got())
			checkTaker(t, fmt.Sprintf("the row %d, up to the part %d", i, n), k, parts[:n+1])
			spoil(k.Got())
		}
		checkTaker(t, fmt.Sprintf("the row %d", i), k, parts)
		for n, g := range kept {
			if told(g) != was[n] {
				t.Errorf("the row %d: what was read up to the part %d became %s, was %s", i, n, told(g), was[n])
			}
			spoil(g)
		}
		checkTaker(t, fmt.Sprintf("the row %d", i), k, parts)
	}
	b := []byte(head(few()...) + events(at(5, ev(2, text("a")))))
	for range 3 {
		l, points, e := read.Trace(b)
		if toldPreds(l) != toldPreds(few()) || toldPoints(points) != toldPoints([]api.Point{at(5, ev(2, text("a")))}) || e != api.OK {
			t.Errorf("Trace: %s, %s, %d", toldPreds(l), toldPoints(points), e)
		}
		spoil(api.Got{Schema: l, Points: points})
		spoil(read.Of(b))
	}
}

// No two lists of an answer share memory, also behind their ends.
func TestNoSharedLists(t *testing.T) {
	b := head(few()...) + whole(1, "") + events(at(5, ev(3, text("a"), num(1), text("b")), ev(2, text("a"))), at(6)) + events(at(4)) + events(at(6, ev(1, num(3)), ev(0)))
	parts := segs.Of([]byte(b))
	want := told(modelOf(parts))
	for name, got := range map[string]func() api.Got{
		"Of":    func() api.Got { return read.Of([]byte(b)) },
		"Taker": func() api.Got { k := read.New(); k.Take(parts[:2]); k.Got(); k.Take(parts[2:]); return k.Got() },
	} {
		g := got()
		for i := range g.Schema {
			_ = append(g.Schema[i].Args, 7, 8)
		}
		for _, p := range g.Points {
			for k := range p.Events {
				_ = append(p.Events[k].Args, num(77), num(78))
			}
			_ = append(p.Events, ev(80), ev(81))
		}
		_, _, _ = append(g.Schema, pred("more")), append(g.Points, at(82)), append(g.Rejects, api.Reject{At: 83})
		if told(g) != want {
			t.Errorf("%s: with things put behind its lists it is %s, want %s", name, told(g), want)
		}
	}
}

// Takers know nothing of each other.
func TestTakersApart(t *testing.T) {
	rows := someBytes()
	for i, b := range rows {
		one, other := segs.Of([]byte(b)), segs.Of([]byte(rows[(i+3)%len(rows)]))
		first, second, none := read.New(), read.New(), read.New()
		for n := range max(len(one), len(other)) {
			if n < len(one) {
				first.Take(one[n : n+1])
			}
			if n < len(other) {
				second.Take(other[n : n+1])
			}
			spoil(first.Got())
			spoil(second.Got())
			third := read.New()
			third.Take(one)
			checkTaker(t, fmt.Sprintf("the row %d, a new one", i), third, one)
			checkTaker(t, fmt.Sprintf("the row %d", i), first, one[:min(n+1, len(one))])
			checkTaker(t, fmt.Sprintf("the row %d, the other one", i), second, other[:min(n+1, len(other))])
			checkTaker(t, "none", none, nil)
		}
	}
}
