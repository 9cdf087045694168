package read_test

import (
	"fmt"
	"math"
	"math/rand"
	"slices"
	"strings"
	"testing"

	"tachograph/api"
	"tachograph/read"
	"tachograph/segs"
)

// Of no bytes nothing is read; of one byte 0 one is skipped.
func TestExamples(t *testing.T) {
	for _, b := range [][]byte{nil, {}, make([]byte, 3)[:0]} {
		checkGot(t, "no bytes", read.Of(b), api.Got{})
		if l, points, e := read.Trace(b); len(l) != 0 || len(points) != 0 || e != api.ErrNone {
			t.Errorf("Trace of no bytes: %v, %v, %d", l, points, e)
		}
	}
	checkOf(t, "", api.Got{})
	for c := range 256 {
		checkOf(t, string([]byte{byte(c)}), api.Got{Skipped: 1})
	}
	checkTrace(t, "\x00", nil, nil, api.ErrSum)
}

// Bytes with their sums, written out by hand.
func TestKnownBytes(t *testing.T) {
	const empty = "\xc7TG\x01\x01\x01\x00\x64\x82\x98\xe7"
	const p = "\xc7TG\x01\x01\x05\x01\x01p\x01\x01\x2b\x62\xe7\xd4"
	const three = "\xc7TG\x01\x02\x06\x05\x01\x00\x01\x00\x06\x2f\x9a\xdb\xc1"
	const five = "\xc7TG\x01\x02\x04\x05\x01\x00\x00\x6d\x3c\x96\x3f"
	l := []api.Pred{pred("p", 1)}
	checkOf(t, empty, api.Got{Frames: 1})
	checkOf(t, p, api.Got{Schema: l, Frames: 1})
	checkOf(t, p+three, api.Got{Schema: l, Points: []api.Point{at(5, ev(0, num(3)))}, Frames: 2})
	checkOf(t, p+five+three+five, api.Got{Schema: l, Points: []api.Point{at(5), at(5, ev(0, num(3))), at(5)}, Frames: 4})
	checkOf(t, empty+five+three, api.Got{Points: []api.Point{at(5)}, Frames: 2, Rejects: []api.Reject{{At: 25, Why: api.ErrName}}})
	checkOf(t, "\x00"+three+p+five+p[:14], api.Got{Schema: l, Points: []api.Point{at(5)}, Skipped: 15, Frames: 2, Rejects: []api.Reject{{At: 1, Why: api.ErrNone}}})
	// One bit of the sum, of the payload, and of the mark is another one.
	for _, place := range []int{14, 11, 10, 7, 3, 0} {
		checkOf(t, turned(p, place, 1)+p+three, api.Got{Schema: l, Points: []api.Point{at(5, ev(0, num(3)))}, Skipped: 15, Frames: 2})
	}
}

// Payloads worked out by hand, in frames whose sums are the library's.
func TestKnownPayloads(t *testing.T) {
	first := whole(2, "\x01\x02\x01\x01a\x01\x02\x00\x00\x02\x01\x01\x00")
	second := whole(2, "\x01\x01\x02\x01b\x01a\x02\x02\x00\x03\x01\x0a\x00")
	third := whole(2, "\xac\x02\x03\x00\x00\x80\x01\x01\x01\x01\x00\x00")
	a := []api.Point{at(1, ev(2, text("a"))), at(1, ev(1, num(-1)), ev(0))}
	b := []api.Point{at(1, ev(2, text("b")), ev(3, text("a"), num(5), text("b")))}
	c := []api.Point{at(300), at(428, ev(1, num(-1))), at(428)}
	own := whole(1, fewPayload)
	checkPieces(t, few(), nil, taken(own))
	checkPieces(t, few(), a, taken(own), taken(first))
	checkPieces(t, few(), c, taken(own), taken(third))
	checkPieces(t, few(), slices.Concat(a, b, c), taken(own), taken(first), taken(second), taken(third))
	checkPieces(t, few(), slices.Concat(b, a, b, a, c), taken(own), taken(second), taken(first), taken(second), taken(first), taken(third))
	checkPieces(t, few(), c, taken(own), taken(third), refused(first, api.ErrOrder), refused(second, api.ErrOrder))
	checkTrace(t, own, few(), nil, api.OK)
	checkTrace(t, own+first+second+third, few(), slices.Concat(a, b, c), api.OK)
}

// wrongSchemas are payloads of no signature, each with layer 11's error of it.
func wrongSchemas() []struct {
	payload string
	want    api.Errno
} {
	return []struct {
		payload string
		want    api.Errno
	}{
		{"", api.ErrShort}, {"\x01", api.ErrShort}, {"\x01\x01", api.ErrShort}, {"\x01\x01p", api.ErrShort}, {"\x01\x01p\x01", api.ErrShort}, {"\x02\x01p\x00", api.ErrShort}, {"\x80", api.ErrShort},
		{"\x80\x80\x80\x80\x80\x80\x80\x80\x80\x80\x00", api.ErrLong}, {"\x01\xff\xff\xff\xff\xff\xff\xff\xff\xff\x02", api.ErrLong},
		{"\x80\x00", api.ErrForm}, {"\x01\x81\x00p\x00", api.ErrForm}, {"\x00\x00", api.ErrForm}, {"\x01\x01p\x01\x01\x00", api.ErrForm}, {"\x01\x01p\x01\x03\x00", api.ErrForm}, {fewPayload + "\x00", api.ErrForm},
		{"\x41", api.ErrLimit}, {"\x01\x21" + long(33) + "\x00", api.ErrLimit}, {"\x01\x01p\x09\x01\x01\x01\x01\x01\x01\x01\x01\x01", api.ErrLimit},
		{"\x01\x01p\x01\x00", api.ErrType}, {"\x01\x01p\x01\x03", api.ErrType}, {"\x02\x01p\x01\x01\x01q\x02\x02\xff", api.ErrType},
		{"\x01\x00\x00", api.ErrName}, {"\x01\x019\x00", api.ErrName}, {"\x02\x01p\x00\x01p\x00", api.ErrName}, {"\x02\x01p\x01\x01\x01p\x01\x02", api.ErrName},
	}
}

// A frame of a signature is refused with layer 11's error of its payload, whether one was taken ahead or not; what is behind it is read.
func TestSchemaErrors(t *testing.T) {
	own, points := head(few()...), events(at(5))
	for _, x := range wrongSchemas() {
		bad := whole(1, x.payload)
		checkPieces(t, nil, nil, refused(bad, x.want))
		checkPieces(t, nil, nil, refused(bad, x.want), refused(points, api.ErrNone), refused(bad, x.want))
		checkPieces(t, few(), []api.Point{at(5)}, refused(bad, x.want), taken(own), taken(points))
		checkPieces(t, few(), []api.Point{at(5), at(5)}, taken(own), refused(bad, x.want), taken(points), refused(bad, x.want), taken(points), taken(own))
	}
}

// others are signatures that are another one than few.
func others() [][]api.Pred {
	l := few()
	return [][]api.Pred{
		nil, l[:1], l[:3], l[1:], append(few(), pred("r")), append([]api.Pred{pred("r")}, l...),
		{l[1], l[0], l[2], l[3]}, {l[0], l[1], l[3], l[2]}, {l[3], l[2], l[1], l[0]},
		{pred("Q"), l[1], l[2], l[3]}, {l[0], pred("pp", 1), l[2], l[3]}, {l[0], l[1], l[2], pred("a", 2, 1, 2)}, {pred("p"), pred("q", 1), l[2], l[3]},
		{l[0], pred("p", 2), l[2], l[3]}, {l[0], pred("p"), l[2], l[3]}, {l[0], pred("p", 1, 1), l[2], l[3]}, {pred("q", 2), l[1], l[2], l[3]},
		{l[0], l[1], l[2], pred("b", 2, 1, 1)}, {l[0], l[1], l[2], pred("b", 1, 2, 2)}, {l[0], l[1], l[2], pred("b", 2, 1)},
	}
}

// The first signature that is taken holds from then on: another one is refused, also as one that is the first behind points.
func TestOtherSignatures(t *testing.T) {
	own, points := head(few()...), events(at(5, ev(2, text("a"))))
	want := []api.Point{at(5, ev(2, text("a")))}
	for _, l := range others() {
		other := head(l...)
		checkPieces(t, few(), nil, taken(own), refused(other, api.ErrType))
		checkPieces(t, l, nil, taken(other), refused(own, api.ErrType), taken(other))
		checkPieces(t, few(), slices.Repeat(want, 2), taken(own), refused(other, api.ErrType), taken(points), refused(other, api.ErrType), refused(other, api.ErrType), taken(own), taken(points), refused(other, api.ErrType))
		checkPieces(t, l, []api.Point{at(7)}, taken(other), refused(own, api.ErrType), taken(events(at(7))), taken(other))
	}
	// A refused one ahead of it doesn't hold.
	for _, x := range wrongSchemas() {
		checkPieces(t, few(), want, refused(whole(1, x.payload), x.want), taken(own), taken(points), refused(head(pred("p", 2)), api.ErrType), taken(own))
	}
	// Points are of the one that holds: with the other one these would be other points, or none.
	p, s := []api.Pred{pred("p", 1)}, []api.Pred{pred("p", 2)}
	three, a := eventsOf(p, at(5, ev(0, num(3)))), eventsOf(s, at(5, ev(0, text("a"))))
	checkPieces(t, p, []api.Point{at(5, ev(0, num(3)))}, taken(head(p...)), refused(head(s...), api.ErrType), refused(a, api.ErrForm), taken(three))
	checkPieces(t, s, []api.Point{at(5, ev(0, text("a")))}, taken(head(s...)), refused(head(p...), api.ErrType), refused(three, api.ErrNone), taken(a))
}

// The same signature is taken again, and counted, wherever it stands.
func TestSameSignatureAgain(t *testing.T) {
	for _, l := range append(others(), few()) {
		own, points := taken(head(l...)), taken(eventsOf(l, at(5), at(6)))
		one := []api.Point{at(5), at(6)}
		checkPieces(t, l, nil, own, own)
		checkPieces(t, l, nil, own, own, own, own, own)
		checkPieces(t, l, one, own, own, points)
		checkPieces(t, l, one, own, points, own)
		checkPieces(t, l, append(one, at(6), at(6)), own, points, own, own, taken(eventsOf(l, at(6))), own, taken(eventsOf(l, at(6))))
		checkPieces(t, l, one, own, points, own, refused(points.b, api.ErrOrder), own)
		checkPieces(t, l, one, skipped("\x00"), own, skipped("\xc7TG"), points, skipped("\x01"), own)
	}
}

// A signature without predicates is one: it holds, and there may be points without events.
func TestNoPredicates(t *testing.T) {
	own, other := head(), head(few()...)
	checkPieces(t, nil, nil, taken(own))
	checkPieces(t, nil, []api.Point{at(5), at(9)}, taken(own), taken(events(at(5), at(9))))
	checkPieces(t, nil, []api.Point{at(5)}, taken(own), refused(other, api.ErrType), taken(events(at(5))), refused(events(at(5, ev(0))), api.ErrName), taken(own), refused(other, api.ErrType))
	checkPieces(t, few(), []api.Point{at(5, ev(0))}, taken(other), refused(own, api.ErrType), taken(events(at(5, ev(0)))))
	checkTrace(t, own, nil, nil, api.OK)
	checkTrace(t, own+events(at(5), at(9)), nil, []api.Point{at(5), at(9)}, api.OK)
	checkTrace(t, own+other, nil, nil, api.ErrType)
	checkTrace(t, own+events(at(5, ev(0))), nil, nil, api.ErrName)
}

// wrongPoints are payloads of no points of few, each with layer 15's error of it; their first times, where they are there, are 0 and above.
func wrongPoints() []struct {
	payload string
	want    api.Errno
} {
	return []struct {
		payload string
		want    api.Errno
	}{
		{"", api.ErrShort}, {"\x05", api.ErrShort}, {"\x05\x01\x00", api.ErrShort}, {"\x05\x01\x00\x01\x01", api.ErrShort}, {"\x05\x02\x00\x00", api.ErrShort}, {"\x05\x02\x00\x00\x01", api.ErrShort},
		{"\xff\xff\xff\xff\xff\xff\xff\xff\xff\x02\x01\x00\x00", api.ErrLong}, {"\x05\x01\x00\x80\x80\x80\x80\x80\x80\x80\x80\x80\x80", api.ErrLong},
		{"\x80\x00\x01\x00\x00", api.ErrForm}, {"\x05\x00\x00", api.ErrForm}, {"\x05\x01\x00\x00\x00", api.ErrForm}, {"\x05\x01\x01\x01a\x00", api.ErrForm}, {"\x00\x01\x01\x01a\x00", api.ErrForm},
		{"\x05\x01\x02\x01a\x01b\x02\x02\x01\x02\x00", api.ErrForm},
		{"\x05\x81\x08", api.ErrLimit}, {"\x05\x01\x81\x20", api.ErrLimit}, {"\x05\x01\x01\xc9\x01", api.ErrLimit}, {"\x05\x01\x00\x81\x08", api.ErrLimit},
		{"\xff\xff\xff\xff\xff\xff\xff\xff\xff\x01\x02\x00\x00\x01\x00", api.ErrOrder}, {"\x05\x02\x00\x00\xff\xff\xff\xff\xff\xff\xff\xff\xff\x01\x00", api.ErrOrder},
		{"\x05\x01\x00\x01\x04", api.ErrName}, {"\x05\x02\x00\x01\x00\x00\x01\x7f", api.ErrName},
		{"\x05\x01\x00\x01\x02\x00", api.ErrNone}, {"\x05\x01\x01\x01a\x01\x02\x01", api.ErrNone},
	}
}

// A frame of points is refused with ErrNone, if no signature was taken ahead, whatever its payload is.
func TestPointsWithoutSignature(t *testing.T) {
	own := head(few()...)
	payloads := []string{"\x05\x01\x00\x00", "\x05\x01\x00\x01\x00", "\x05\x01\x01\x01a\x01\x02\x00"}
	for _, x := range wrongPoints() {
		payloads = append(payloads, x.payload)
	}
	for _, payload := range payloads {
		p := refused(whole(2, payload), api.ErrNone)
		checkPieces(t, nil, nil, p)
		checkPieces(t, nil, nil, p, skipped("\x00"), p)
		checkPieces(t, few(), nil, p, p, taken(own))
		checkPieces(t, few(), []api.Point{at(0)}, p, taken(own), taken(events(at(0))))
		for _, x := range wrongSchemas() {
			checkPieces(t, nil, nil, refused(whole(1, x.payload), x.want), p)
		}
		checkPieces(t, few(), nil, refused(whole(1, "\x01"), api.ErrShort), p, taken(own))
	}
}

// A frame of points is refused with layer 15's error of the signature and its payload, and then none of its points are taken.
func TestPointsErrors(t *testing.T) {
	own, five := taken(head(few()...)), taken(events(at(5, ev(0))))
	for _, x := range wrongPoints() {
		bad := refused(whole(2, x.payload), x.want)
		checkPieces(t, few(), nil, own, bad)
		checkPieces(t, few(), nil, own, bad, bad, own)
		checkPieces(t, few(), []api.Point{at(5, ev(0)), at(5, ev(0))}, own, five, bad, five, bad)
		checkPieces(t, few(), []api.Point{at(0)}, own, bad, taken(events(at(0))))
		// Layer 15's error is told ahead of an order that isn't right.
		checkPieces(t, few(), []api.Point{at(math.MaxUint64)}, own, taken(events(at(math.MaxUint64))), bad, own, bad)
		// What is refused is refused again, whatever was taken in between.
		checkPieces(t, few(), []api.Point{at(5, ev(0)), at(6)}, own, bad, five, bad, taken(events(at(6))), bad, skipped("\x02"), bad)
	}
}

// The payload is of the points of the signature that holds.
func TestPointsOfTheSignature(t *testing.T) {
	b := events(at(5, ev(1, num(3))))
	for _, x := range []struct {
		l    []api.Pred
		want api.Errno
	}{
		{few(), api.OK}, {[]api.Pred{pred("a"), pred("b", 1)}, api.OK}, {[]api.Pred{pred("a"), pred("b", 1), pred("c", 1)}, api.OK},
		{nil, api.ErrName}, {few()[:1], api.ErrName}, {few()[1:2], api.ErrName}, {[]api.Pred{pred("a"), pred("b", 2)}, api.ErrNone}, {[]api.Pred{pred("a"), pred("b")}, api.ErrForm}, {[]api.Pred{pred("a"), pred("b", 1, 1)}, api.ErrShort},
	} {
		var points []api.Point
		if x.want == api.OK {
			points = []api.Point{at(5, ev(1, num(3)))}
		}
		checkPieces(t, x.l, points, taken(head(x.l...)), refused(b, x.want))
	}
}

// A frame's first time may not be below the last one of all points that were taken ahead.
func TestOrder(t *testing.T) {
	own := taken(head(few()...))
	for _, last := range []uint64{1, 2, 127, 128, 300, 1 << 32, 1<<63 - 1, 1 << 63, 1<<63 + 1, math.MaxUint64 - 1, math.MaxUint64} {
		p, below := at(last, ev(1, num(1))), last-1
		one := taken(events(p))
		low := refused(events(at(below)), api.ErrOrder)
		checkPieces(t, few(), []api.Point{p}, own, one, low)
		checkPieces(t, few(), []api.Point{p, p}, own, one, low, one, low)
		checkPieces(t, few(), []api.Point{p}, own, one, refused(events(at(0)), api.ErrOrder), refused(events(at(0), at(last)), api.ErrOrder), refused(events(at(below), at(math.MaxUint64)), api.ErrOrder))
		checkPieces(t, few(), []api.Point{at(below), p, p}, own, taken(events(at(below))), one, low, one)
		checkPieces(t, few(), []api.Point{at(below), at(last), at(last)}, own, taken(events(at(below), at(last))), low, taken(events(at(last))), low)
		checkPieces(t, few(), []api.Point{at(last), at(math.MaxUint64), at(math.MaxUint64)}, own, taken(events(at(last), at(math.MaxUint64))), refused(events(at(math.MaxUint64-1)), api.ErrOrder), taken(events(at(math.MaxUint64))))
		// Also behind the signature again, and behind skipped bytes.
		checkPieces(t, few(), []api.Point{p, p}, own, one, own, low, skipped("\x00"), low, one)
	}
	checkPieces(t, few(), []api.Point{at(0), at(0), at(0)}, own, taken(events(at(0))), taken(events(at(0), at(0))))
}

// A refused frame's times say nothing, whatever it was refused for.
func TestOrderBehindRefused(t *testing.T) {
	own, five, six := taken(head(few()...)), taken(events(at(5))), taken(events(at(6)))
	for _, bad := range []piece{
		refused(whole(2, "\x64"), api.ErrShort), refused(whole(2, "\x64\x01\x00\x00\x00"), api.ErrForm), refused(whole(2, "\x64\x02\x00\x00\x00\x01\x09"), api.ErrName),
		refused(whole(2, "\x64\x02\x00\x00\x00\x01\x02\x00"), api.ErrNone), refused(eventsOf([]api.Pred{pred("p", 2)}, at(100, ev(0, text("a")))), api.ErrForm),
	} {
		checkPieces(t, few(), []api.Point{at(5)}, own, bad, five)
		checkPieces(t, few(), []api.Point{at(5), at(5), at(6)}, own, five, bad, five, bad, six)
		checkPieces(t, few(), []api.Point{at(6), at(6)}, own, six, bad, refused(five.b, api.ErrOrder), bad, six)
	}
	hundred := events(at(100))
	checkPieces(t, few(), []api.Point{at(5), at(100)}, refused(hundred, api.ErrNone), own, five, taken(hundred))
	// One whose last time is later, but whose first one is too early.
	checkPieces(t, few(), []api.Point{at(6), at(6)}, own, six, refused(events(at(5), at(100)), api.ErrOrder), six)
}

// Bytes are skipped ahead of, between and behind frames, and what is behind them is read.
func TestSkipped(t *testing.T) {
	own, five, nine := head(few()...), events(at(5, ev(2, text("a")))), events(at(9), at(9))
	points := []api.Point{at(5, ev(2, text("a"))), at(9), at(9)}
	for _, x := range []string{"\x00", "\xc7", "\xc7TG", "\xc7TG\x01", "\xc7TG\x01\x01\x03", "\xc7TG\x01\x02\xff\x20", own[:len(own)-1], nine[:10], turned(five, len(five)-1, 1), turned(own, 9, 0x80), long(5000), "\xc7TG\x01\x02\xff\x1f" + long(4000)} {
		s := skipped(x)
		checkPieces(t, few(), points, s, taken(own), taken(five), taken(nine))
		checkPieces(t, few(), points, taken(own), s, taken(five), taken(nine))
		checkPieces(t, few(), points, taken(own), taken(five), s, taken(nine))
		checkPieces(t, few(), points, taken(own), taken(five), taken(nine), s)
		checkPieces(t, few(), points, s, s, taken(own), s, taken(five), s, s, taken(nine), s)
		checkPieces(t, few(), points[1:], refused(five, api.ErrNone), s, taken(own), s, taken(nine), refused(five, api.ErrOrder), s, refused(five, api.ErrOrder), s)
		checkPieces(t, nil, nil, s)
	}
	// Cut off anywhere, a frame isn't taken.
	for cut := 1; cut < len(own); cut++ {
		checkPieces(t, nil, nil, skipped(own[:cut]))
		checkPieces(t, nil, nil, skipped(own[cut:]), refused(five, api.ErrNone))
	}
	for cut := 1; cut < len(five); cut++ {
		checkPieces(t, few(), nil, taken(own), skipped(five[:cut]))
		checkPieces(t, few(), points[1:], taken(own), skipped(five[cut:]), taken(nine), skipped(five[:cut]))
	}
}

// Another frame within one that is taken isn't read; one within what is skipped is.
func TestFramesWithin(t *testing.T) {
	own, five := head(few()...), events(at(5))
	outer := at(4, ev(2, text(five)))
	checkPieces(t, few(), []api.Point{outer, at(5)}, taken(own), taken(events(outer)), taken(five))
	b := events(outer)
	place := strings.Index(b, five)
	checkPieces(t, few(), []api.Point{at(5)}, taken(own), skipped(turned(b[:place], 6, 1)), taken(five), skipped(b[place+len(five):]))
}

// Refused frames are told in order, each with where it begins and why; all that is right in between is read.
func TestRejects(t *testing.T) {
	own := taken(head(few()...))
	checkPieces(t, few(), []api.Point{at(3), at(7, ev(3, text("x"), num(-5), text("x"))), at(7), at(8)},
		skipped("\x00\x01"), refused(events(at(1)), api.ErrNone), refused(whole(1, "\x01"), api.ErrShort), refused(whole(1, "\x41"), api.ErrLimit), refused(events(at(2)), api.ErrNone),
		own, refused(head(pred("p")), api.ErrType), taken(events(at(3))), refused(whole(2, "\x04\x00"), api.ErrForm), skipped("\xc7"),
		taken(events(at(7, ev(3, text("x"), num(-5), text("x"))), at(7))), refused(events(at(6), at(9)), api.ErrOrder), own, refused(whole(1, "\x00\x00"), api.ErrForm),
		refused(whole(2, "\x09\x01\x00\x01\x09"), api.ErrName), refused(whole(2, "\x09\x01\x00\x01\x02\x00"), api.ErrNone), skipped(long(300)), taken(events(at(8))),
		refused(whole(1, "\x01\x00\x00"), api.ErrName), refused(events(at(7)), api.ErrOrder), skipped("\xc7TG\x01\x02"))
	var many []piece
	for range 1000 {
		many = append(many, refused(events(at(1)), api.ErrNone), skipped("\x00"))
	}
	checkPieces(t, few(), nil, append(many, own)...)
}

// Trace's errors: a skipped byte ahead of all else, the first refused frame's, no signature.
func TestTraceErrors(t *testing.T) {
	own, five := head(few()...), events(at(5))
	points := []api.Point{at(5)}
	checkTrace(t, own+five, few(), points, api.OK)
	checkTrace(t, own, few(), nil, api.OK)
	checkTrace(t, "", nil, nil, api.ErrNone)
	var bad []piece
	for _, x := range wrongSchemas() {
		bad = append(bad, refused(whole(1, x.payload), x.want))
	}
	for _, x := range wrongPoints() {
		bad = append(bad, refused(whole(2, x.payload), x.want))
	}
	bad = append(bad, refused(events(at(4)), api.ErrOrder), refused(head(pred("p")), api.ErrType))
	for i, x := range bad {
		checkTrace(t, own+five+x.b, nil, nil, x.why)
		checkTrace(t, own+five+x.b+five, nil, nil, x.why)
		checkTrace(t, own+five+x.b+bad[(i+1)%len(bad)].b+bad[(i+7)%len(bad)].b, nil, nil, x.why)
		if x.b[4] == 1 && x.why != api.ErrType {
			checkTrace(t, x.b, nil, nil, x.why)
			checkTrace(t, x.b+five+own+five, nil, nil, x.why)
			checkTrace(t, five+x.b+own, nil, nil, api.ErrNone)
		}
		// Skipped bytes anywhere are told first.
		for _, b := range []string{"\x00" + own + five + x.b, own + "\x00" + x.b, own + five + x.b + "\xc7", x.b + "\x00", "\x00" + x.b, own + turned(five, 7, 1) + x.b + five} {
			checkTrace(t, b, nil, nil, api.ErrSum)
		}
	}
	checkTrace(t, five, nil, nil, api.ErrNone)
	checkTrace(t, five+own, nil, nil, api.ErrNone)
	for _, b := range []string{"\x00", "\xc7", own[:9], "\x00" + own, own + "\x00", own + five + "\x00", own + "\x00" + five, five + "\x00"} {
		checkTrace(t, b, nil, nil, api.ErrSum)
	}
}

// All short bytes, and longer ones of what a frame begins with.
func TestAllShortBytes(t *testing.T) {
	t.Parallel()
	for i := range 1 << 16 {
		for _, b := range []string{string([]byte{byte(i), byte(i >> 8)}), "\xc7TG\x01" + string([]byte{byte(i), byte(i >> 8)})} {
			if got := checkRead(t, b); got.Skipped != len(b) {
				t.Fatalf("of %x %d are skipped", b, got.Skipped)
			}
		}
	}
	for _, b := range lists([]byte("\xc7TG\x01\x02\x00"), 6) {
		checkRead(t, string(b))
	}
}

// All rows of up to five pieces, against the model.
func TestAllRows(t *testing.T) {
	t.Parallel()
	s := []api.Pred{pred("p", 2)}
	pieces := []string{
		head(few()...), head(s...), events(at(5)), events(at(4), at(6, ev(2, text("a")))), eventsOf(s, at(5, ev(0, text("a")))),
		whole(1, "\x01"), whole(2, "\x05\x01\x00\x00\x00"), "\x00", "\xc7TG\x01\x02\x04\x05",
	}
	var errors [11]int
	for _, row := range lists(pieces, 5) {
		for _, reject := range checkRead(t, strings.Join(row, "")).Rejects {
			errors[reject.Why]++
		}
		if t.Failed() {
			t.FailNow()
		}
	}
	for _, e := range []api.Errno{api.ErrNone, api.ErrShort, api.ErrForm, api.ErrType, api.ErrOrder} {
		if errors[e] < 1000 {
			t.Errorf("the error %d was met only %d times", e, errors[e])
		}
	}
}

// drawer draws pieces of bytes from a seed.
type drawer struct {
	*rand.Rand
	time uint64 // about which the next points are
}

// event is any event of few.
func (d *drawer) event() api.Event {
	i := d.Intn(4)
	e := ev(i)
	for _, typ := range few()[i].Args {
		if typ == 1 {
			e.Args = append(e.Args, num(int64(d.Uint64())>>d.Intn(64)))
		} else {
			e.Args = append(e.Args, text(long(d.Intn(4))))
		}
	}
	return e
}

// points are some of few, most often behind the ones that were drawn ahead.
func (d *drawer) points() []api.Point {
	var points []api.Point
	time := d.time - uint64(d.Intn(10)/8)
	for range 1 + d.Intn(3) {
		p := at(time)
		for range d.Intn(3) {
			p.Events = append(p.Events, d.event())
		}
		points = append(points, p)
		time += uint64(d.Intn(3))
	}
	d.time = time
	return points
}

// noise are any bytes, often those of marks.
func (d *drawer) noise() string {
	b := make([]byte, d.Intn(12))
	for i := range b {
		b[i] = byte(d.Intn(256))
		if d.Intn(2) == 0 {
			b[i] = "\xc7TG\x01\x02\x00"[d.Intn(6)]
		}
	}
	return string(b)
}

// frame are the bytes of a whole frame.
func (d *drawer) frame() string {
	switch d.Intn(8) {
	case 0:
		return head(few()...)
	case 1:
		return head(others()[d.Intn(len(others()))]...)
	case 2:
		return whole(1, wrongSchemas()[d.Intn(len(wrongSchemas()))].payload)
	case 3:
		return whole(2, wrongPoints()[d.Intn(len(wrongPoints()))].payload)
	case 4:
		return whole(byte(1+d.Intn(2)), d.noise())
	}
	return events(d.points()...)
}

// spoiledPayload are the bytes of a frame whose sum is that of a payload with a byte turned.
func (d *drawer) spoiledPayload() string {
	b := d.frame()
	payload := []byte(b[6 : len(b)-4])
	if len(payload) > 0 {
		payload[d.Intn(len(payload))] ^= byte(1 << d.Intn(8))
	}
	return whole(b[4], string(payload))
}

// piece are some bytes.
func (d *drawer) piece() string {
	switch d.Intn(10) {
	case 0:
		return d.noise()
	case 1:
		b := d.frame()
		return turned(b, d.Intn(len(b)), byte(1+d.Intn(255)))
	case 2:
		b := d.frame()
		return b[:d.Intn(len(b))]
	case 3:
		b := d.frame()
		return b[d.Intn(len(b)):]
	case 4:
		return d.spoiledPayload()
	case 5:
		return head(few()...)
	}
	return d.frame()
}

// row are the bytes of some pieces, most often with few's signature at or near the front.
func (d *drawer) row() string {
	var b strings.Builder
	for i := range d.Intn(30) {
		if i == 1 && d.Intn(2) == 0 {
			b.WriteString(head(few()...))
		}
		b.WriteString(d.piece())
	}
	return b.String()
}

// newDrawer is a drawer of a seed.
func newDrawer(seed int64) *drawer {
	return &drawer{Rand: rand.New(rand.NewSource(seed)), time: 5}
}

// Bytes drawn from fixed seeds, of pieces of all sorts, against the model and the promises.
func TestDrawnBytes(t *testing.T) {
	t.Parallel()
	var errors [11]int
	points, skipped, frames := 0, 0, 0
	for seed := range int64(3000) {
		g := checkRead(t, newDrawer(seed).row())
		points, skipped, frames = points+len(g.Points), skipped+g.Skipped, frames+g.Frames
		for _, reject := range g.Rejects {
			errors[reject.Why]++
		}
		if t.Failed() {
			t.Fatalf("with the seed %d", seed)
		}
	}
	for e, count := range errors {
		if e != int(api.OK) && e != int(api.ErrArg) && e != int(api.ErrSum) && count < 50 {
			t.Errorf("the error %d was met only %d times", e, count)
		}
	}
	if points < 5000 || skipped < 5000 || frames < 5000 {
		t.Errorf("only %d points, %d skipped bytes, %d frames", points, skipped, frames)
	}
}

// A row with any one byte another one, or left out.
func TestOtherBytes(t *testing.T) {
	t.Parallel()
	b := head(few()...) + events(at(5), at(6, ev(2, text("a")))) + events(at(6), at(300, ev(1, num(-1)))) + head(few()...) + events(at(300))
	for i := range b {
		for _, by := range []byte{1, 2, 3, 4, 8, 16, 32, 64, 127, 128, 255} {
			if g := checkRead(t, turned(b, i, by)); g.Skipped == 0 || len(g.Rejects) > 0 && g.Rejects[0].Why != api.ErrNone {
				t.Errorf("with the byte %d turned by %d: %s", i, by, told(g))
			}
		}
		checkRead(t, b[:i]+b[i+1:])
		checkRead(t, b[:i]+"\xc7"+b[i:])
		checkRead(t, b[:i])
		checkRead(t, b[i:])
	}
}

// What was handed in stays as it was, what is behind its end isn't gone to, and it isn't kept.
func TestOfKeepsNothing(t *testing.T) {
	b := head(few()...) + events(at(5, ev(3, text("ab"), num(7), text("c")))) + "\x00" + events(at(4)) + events(at(6, ev(2, text("ab"))))
	room := []byte(b + events(at(9)))
	was := string(room)
	g := read.Of(room[:len(b)])
	l, points, e := read.Trace(room[:strings.Index(b, "\x00\xc7")])
	want := told(g)
	if string(room) != was {
		t.Errorf("what was handed in is %x, was %x", room, was)
	}
	if wanted := told(modelOf(segs.Of([]byte(b)))); want != wanted {
		t.Errorf("of bytes with room behind %s, want %s", want, wanted)
	}
	clear(room)
	if told(g) != want {
		t.Errorf("with the bytes written over it is %s, was %s", told(g), want)
	}
	if toldPreds(l) != toldPreds(few()) || toldPoints(points) != toldPoints(g.Points[:1]) || e != api.OK {
		t.Errorf("with the bytes written over Trace is %s, %s, %d", toldPreds(l), toldPoints(points), e)
	}
	checkGot(t, "Of what was cleared", read.Of(room), api.Got{Skipped: len(room)})
}

// Answers hang on what was handed in alone, not on the calls ahead.
func TestHangsOnNothingElse(t *testing.T) {
	own, five := head(few()...), events(at(5))
	for range 3 {
		checkPieces(t, few(), []api.Point{at(5)}, taken(own), taken(five))
		checkPieces(t, nil, nil, refused(five, api.ErrNone))
		checkPieces(t, nil, []api.Point{at(5)}, taken(head()), taken(five))
		checkPieces(t, few(), []api.Point{at(3), at(5)}, taken(own), taken(events(at(3))), taken(five))
		checkPieces(t, nil, nil, skipped("\x00"))
		checkPieces(t, nil, nil)
	}
}

// A nil list is the same as an empty one: what isn't there is told by a list without anything.
func TestNothingIsEmpty(t *testing.T) {
	for _, b := range []string{"", "\x00", head(), events(at(5))} {
		if g := read.Of([]byte(b)); len(g.Schema) != 0 || len(g.Points) != 0 {
			t.Errorf("Of %x: %s", b, told(g))
		}
	}
	for _, g := range []api.Got{read.Of(nil), read.Of([]byte(head(few()...)))} {
		if len(g.Rejects) != 0 || g.Skipped != 0 {
			t.Errorf("nothing is wrong, but %s", fmt.Sprint(g.Rejects, g.Skipped))
		}
	}
}
