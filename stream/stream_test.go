package stream_test

import (
	"fmt"
	"math"
	"slices"
	"strings"
	"testing"

	"tachograph/api"
	"tachograph/read"
	"tachograph/stream"
	"tachograph/write"
)

// Of the bytes of a trace, byte by byte, each block's points come with its last byte, and none with any other one.
func TestExample(t *testing.T) {
	var points []api.Point
	for i := range 7 {
		points = append(points, at(uint64(5*i), ev(2, text(fmt.Sprint(i))), ev(1, num(int64(i)))))
	}
	for most := 1; most <= 8; most++ {
		parts, e := write.Frames(few(), points, most)
		b, e2 := write.Bytes(few(), points, most)
		if e != api.OK || e2 != api.OK || len(parts) != 1+(6+most)/most {
			t.Fatalf("layer 17 has the errors %d and %d, and %d frames", e, e2, len(parts))
		}
		p := newPlayer(t, fmt.Sprintf("at most %d", most))
		left := points
		for n, part := range parts {
			for i := range part.N - 1 {
				p.give(string(b[part.From+i:part.From+i+1]), i+1, part.From)
			}
			count := 0
			if n > 0 {
				count = min(most, len(left))
			}
			p.give(string(b[part.From+part.N-1:part.From+part.N]), 0, part.From+part.N, left[:count]...)
			left = left[count:]
		}
		p.close()
		p.got(api.Got{Schema: few(), Points: points, Frames: len(parts)})
		p.closedForGood()
	}
}

// Bytes with their sums, written out by hand.
func TestKnownBytes(t *testing.T) {
	const schema = "\xc7TG\x01\x01\x05\x01\x01p\x01\x01\x2b\x62\xe7\xd4"
	const three = "\xc7TG\x01\x02\x06\x05\x01\x00\x01\x00\x06\x2f\x9a\xdb\xc1"
	const five = "\xc7TG\x01\x02\x04\x05\x01\x00\x00\x6d\x3c\x96\x3f"
	l := []api.Pred{pred("p", 1)}
	p := newPlayer(t, "by hand")
	p.give("\x00\xc7", 1, 0)
	p.give("TG\x02"+three[:9], 9, 0)
	p.give(three[9:15], 15, 0)
	p.got(api.Got{})
	// What is refused is told, with what is skipped ahead of it.
	p.give(three[15:], 0, 21)
	p.got(api.Got{Skipped: 5, Rejects: []api.Reject{{At: 5, Why: api.ErrNone}}})
	p.give(schema+five+three[:15], 15, 50, at(5))
	p.got(api.Got{Schema: l, Points: []api.Point{at(5)}, Skipped: 5, Frames: 2, Rejects: []api.Reject{{At: 5, Why: api.ErrNone}}})
	p.give(three[15:]+"\x00\x01", 0, 66, at(5, ev(0, num(3))))
	p.give("\x02\xc7T", 2, 66)
	p.close()
	p.got(api.Got{Schema: l, Points: []api.Point{at(5), at(5, ev(0, num(3)))}, Skipped: 10, Frames: 3, Rejects: []api.Reject{{At: 5, Why: api.ErrNone}}})
	p.closedForGood()
}

// A stream that was given nothing has read nothing, and may be closed.
func TestNothingGiven(t *testing.T) {
	p := newPlayer(t, "nothing given")
	p.got(api.Got{})
	p.close()
	p.got(api.Got{})
	p.closedForGood()
	p = newPlayer(t, "no bytes given")
	p.give("", 0, 0)
	points, e := p.s.Give(nil)
	checkPoints(t, "Give of nil", points, e, nil, api.OK)
	p.give("", 0, 0)
	p.close()
	p.got(api.Got{})
	p.closedForGood()
}

// No bytes tell nothing and change nothing, nil ones and empty ones, wherever they are given; also those that have room behind.
func TestNoBytes(t *testing.T) {
	p := newPlayer(t, "no bytes")
	nothing := func() {
		t.Helper()
		was := told(p.s.Got())
		for _, chunk := range [][]byte{nil, {}, []byte(own())[:0], nil} {
			points, e := p.s.Give(chunk)
			checkPoints(t, "Give of no bytes", points, e, nil, api.OK)
			checkState(t, "behind Give of no bytes", p.s, p.was)
		}
		if now := told(p.s.Got()); now != was {
			t.Errorf("behind no bytes %s, was %s", now, was)
		}
	}
	five, six := events(at(5)), events(at(6))
	nothing()
	p.give(own()[:12], 12, 0)
	nothing()
	p.give(own()[12:], 0, 28)
	nothing()
	p.give(five, 0, 42, at(5))
	nothing()
	p.give("\x00", 0, 42)
	nothing()
	p.give(six[:13], 13, 42)
	nothing()
	p.give(six[13:]+five, 0, 71, at(6))
	nothing()
	p.give("\xc7TG\x01\x02\xff\x1f"+six, 21, 71)
	nothing()
	p.close(at(6))
	p.closedForGood()
}

// A chunk may end within a frame, with one, or with several; the points are those of the frames that end in it alone.
func TestPointsOfTheCall(t *testing.T) {
	one, two, three := events(at(1)), events(at(2), at(2, ev(2, text("a")))), events(at(3, ev(3, text("b"), num(-4), text("b"))))
	a := []api.Point{at(1), at(2), at(2, ev(2, text("a"))), at(3, ev(3, text("b"), num(-4), text("b")))}
	p := newPlayer(t, "several frames")
	p.give(own()+one+two+three, 0, 28+len(one+two+three), a...)
	p.close()
	p.got(api.Got{Schema: few(), Points: a, Frames: 4})

	p = newPlayer(t, "cut within frames")
	p.give(own()+one+two[:5], 5, 42, a[0])
	p.give(two[5:len(two)-1], len(two)-1, 42)
	p.give(two[len(two)-1:], 0, 42+len(two), a[1:3]...)
	p.give(three[:1], 1, 42+len(two))
	p.give(three[1:], 0, 42+len(two+three), a[3])
	p.close()
	p.got(api.Got{Schema: few(), Points: a, Frames: 4})

	p = newPlayer(t, "a frame a chunk")
	for i, b := range []string{own(), one, two, three} {
		p.give(b, 0, len(p.given+b), [][]api.Point{nil, a[:1], a[1:3], a[3:]}[i]...)
	}
	p.give(own()+three+three, 0, len(p.given)+28+2*len(three), a[3], a[3])
	p.close()
	p.closedForGood()
}

// Skipped bytes are told with the frame behind them, those at the end when it is closed; they give no points.
func TestSkipped(t *testing.T) {
	five, six := events(at(5)), events(at(6))
	p := newPlayer(t, "skipped bytes")
	p.give("\x00\x01", 0, 0)
	p.give(long(5000), 0, 0)
	p.got(api.Got{})
	p.give("\xc7"+own(), 0, 5031)
	p.got(api.Got{Schema: few(), Skipped: 5003, Frames: 1})
	p.give("\xc7TG\x02"+five+"\x03", 0, 5049, at(5))
	p.got(api.Got{Schema: few(), Points: []api.Point{at(5)}, Skipped: 5007, Frames: 2})
	p.give(turned(six, 13, 1), 0, 5049)
	p.give(turned(six, 0, 1), 0, 5049)
	p.give(six+"\x00", 0, 5092, at(6))
	p.give("\x00\x00", 0, 5092)
	p.got(api.Got{Schema: few(), Points: []api.Point{at(5), at(6)}, Skipped: 5036, Frames: 3})
	p.close()
	p.got(api.Got{Schema: few(), Points: []api.Point{at(5), at(6)}, Skipped: 5039, Frames: 3})
	p.closedForGood()
}

// refusal are the bytes of a frame that is refused behind few's signature and the time 7, and why.
type refusal struct {
	b   string
	why api.Errno
}

// refusals has each of layer 18's errors.
func refusals() []refusal {
	var l []refusal
	for payload, why := range map[string]api.Errno{
		"": api.ErrShort, "\x01\x01p": api.ErrShort, "\x80\x80\x80\x80\x80\x80\x80\x80\x80\x80\x00": api.ErrLong, "\x80\x00": api.ErrForm, "\x00\x00": api.ErrForm,
		"\x41": api.ErrLimit, "\x01\x01p\x01\x03": api.ErrType, "\x01\x00\x00": api.ErrName, "\x00": api.ErrType, "\x01\x01q\x00": api.ErrType,
	} {
		l = append(l, refusal{whole(1, payload), why})
	}
	for payload, why := range map[string]api.Errno{
		"": api.ErrShort, "\x08\x01\x00": api.ErrShort, "\xff\xff\xff\xff\xff\xff\xff\xff\xff\x02\x01\x00\x00": api.ErrLong, "\x08\x00": api.ErrForm, "\x08\x01\x00\x00\x00": api.ErrForm,
		"\x08\x81\x08": api.ErrLimit, "\x08\x02\x00\x00\xff\xff\xff\xff\xff\xff\xff\xff\xff\x01\x00": api.ErrOrder, "\x06\x01\x00\x00": api.ErrOrder, "\x06\x02\x00\x00\x09\x00": api.ErrOrder,
		"\x08\x01\x00\x01\x04": api.ErrName, "\x08\x01\x00\x01\x02\x00": api.ErrNone,
	} {
		l = append(l, refusal{whole(2, payload), why})
	}
	slices.SortFunc(l, func(a, b refusal) int { return strings.Compare(a.b, b.b) })
	return l
}

// A refused frame gives no points, and is told with where it begins in all bytes, however they are cut; what is behind it is read.
func TestRefused(t *testing.T) {
	seven, eight := events(at(7)), events(at(8))
	for _, x := range refusals() {
		for _, cut := range []int{0, 1, 5, len(x.b) - 1} {
			p := newPlayer(t, fmt.Sprintf("refused with %d, %s, cut at %d", x.why, short(x.b), cut))
			p.give(own()+seven+"\x00\x00"+x.b[:cut], cut, 42, at(7))
			p.give(x.b[cut:], 0, 44+len(x.b))
			one := api.Reject{At: 44, Why: x.why}
			p.got(api.Got{Schema: few(), Points: []api.Point{at(7)}, Skipped: 2, Frames: 2, Rejects: []api.Reject{one}})
			p.give(x.b+seven+x.b[:cut], cut, 58+2*len(x.b), at(7))
			p.give(x.b[cut:]+eight[:3], 3, 58+3*len(x.b))
			p.give(eight[3:]+"\x00", 0, 72+3*len(x.b), at(8))
			p.close()
			p.got(api.Got{Schema: few(), Points: []api.Point{at(7), at(7), at(8)}, Skipped: 3, Frames: 4, Rejects: []api.Reject{one, {At: 44 + len(x.b), Why: x.why}, {At: 58 + 2*len(x.b), Why: x.why}}})
			p.closedForGood()
		}
	}
}

// Points ahead of any signature are refused, also if the signature is in the same chunk behind them, and aren't taken later.
func TestPointsWithoutSignature(t *testing.T) {
	five, six := events(at(5)), events(at(6))
	none := []api.Reject{{At: 0, Why: api.ErrNone}, {At: 14, Why: api.ErrNone}}
	p := newPlayer(t, "no signature")
	p.give(five, 0, 14)
	p.give(six[:3], 3, 14)
	p.give(six[3:]+own(), 0, 56)
	p.got(api.Got{Schema: few(), Frames: 1, Rejects: none})
	p.give(five+own(), 0, 98, at(5))
	p.close()
	p = newPlayer(t, "no signature, in one chunk")
	p.give(five+six+own()+five, 0, 70, at(5))
	p.got(api.Got{Schema: few(), Points: []api.Point{at(5)}, Frames: 2, Rejects: none})
	p.close()
	p = newPlayer(t, "no signature at all")
	p.give(five+six[:13], 13, 14)
	p.give(six[13:], 0, 28)
	p.close()
	p.got(api.Got{Rejects: none})
	p.closedForGood()
}

// The first signature that is taken holds from then on, over all calls.
func TestSignatures(t *testing.T) {
	other := head(pred("p", 2))
	p := newPlayer(t, "two signatures")
	p.give(whole(1, "\x01")+own(), 0, 39)
	p.give(other[:14], 14, 39)
	p.give(other[14:]+events(at(1, ev(1, num(1)))), 0, 70, at(1, ev(1, num(1))))
	p.give(own()+other, 0, 113)
	p.give(events(at(1), at(2)), 0, 129, at(1), at(2))
	p.close()
	p.got(api.Got{Schema: few(), Points: []api.Point{at(1, ev(1, num(1))), at(1), at(2)}, Frames: 4, Rejects: []api.Reject{{At: 0, Why: api.ErrShort}, {At: 39, Why: api.ErrType}, {At: 98, Why: api.ErrType}}})
	p = newPlayer(t, "no predicates")
	p.give(head(), 0, 11)
	p.give(own(), 0, 39)
	p.give(events(at(3)), 0, 53, at(3))
	p.close()
	p.got(api.Got{Points: []api.Point{at(3)}, Frames: 2, Rejects: []api.Reject{{At: 11, Why: api.ErrType}}})
	p.closedForGood()
}

// Times may not fall, from call to call either; those of refused frames say nothing.
func TestOrder(t *testing.T) {
	p := newPlayer(t, "times")
	p.give(own()+events(at(5), at(9)), 0, 44, at(5), at(9))
	p.give(events(at(8)), 0, 58)
	p.give(events(at(8), at(100)), 0, 74)
	p.give(events(at(9)), 0, 88, at(9))
	p.give(events(at(8))+events(at(9))+events(at(7)), 0, 130, at(9))
	last := events(at(math.MaxUint64))
	p.give(last+events(at(9)), 0, 144+len(last), at(math.MaxUint64))
	p.give(last, 0, 144+2*len(last), at(math.MaxUint64))
	p.close()
	p.got(api.Got{Schema: few(), Points: []api.Point{at(5), at(9), at(9), at(9), at(math.MaxUint64), at(math.MaxUint64)}, Frames: 6,
		Rejects: []api.Reject{{At: 44, Why: api.ErrOrder}, {At: 58, Why: api.ErrOrder}, {At: 88, Why: api.ErrOrder}, {At: 116, Why: api.ErrOrder}, {At: 130 + len(last), Why: api.ErrOrder}}})
	p.closedForGood()
}

// yet are bytes at which a frame may yet begin that never does, unless 4095 bytes and a sum are given behind them.
const yet = "\xc7TG\x01\x02\xff\x1f"

// Frames behind a byte at which a frame may yet begin are told when it is closed, and their points with that.
func TestToldByClose(t *testing.T) {
	five, six := events(at(5)), events(at(6, ev(2, text("a"))))
	p := newPlayer(t, "one frame")
	p.give(own()+yet, 7, 28)
	p.give(five, 21, 28)
	p.got(api.Got{Schema: few(), Frames: 1})
	p.close(at(5))
	p.got(api.Got{Schema: few(), Points: []api.Point{at(5)}, Skipped: 7, Frames: 2})
	p.closedForGood()

	b := yet + six + events(at(4)) + head(pred("r")) + own() + whole(2, "\x08")
	p = newPlayer(t, "several frames, some of them refused, and a half one")
	p.give(own()+five, 0, 42, at(5))
	p.give(b, len(b), 42)
	p.give(yet+six+six[:4], len(b)+7+len(six)+4, 42)
	p.got(api.Got{Schema: few(), Points: []api.Point{at(5)}, Frames: 2})
	point := at(6, ev(2, text("a")))
	p.close(point, point)
	four := 49 + len(six)
	p.got(api.Got{Schema: few(), Points: []api.Point{at(5), point, point}, Skipped: 18, Frames: 5, Rejects: []api.Reject{{At: four, Why: api.ErrOrder}, {At: four + 14, Why: api.ErrType}, {At: four + 14 + len(head(pred("r"))) + 28, Why: api.ErrShort}}})
	p.closedForGood()

	p = newPlayer(t, "a signature too")
	p.give(yet+five+own(), 49, 0)
	p.got(api.Got{})
	p.give(five+six[:4], 67, 0)
	p.close(at(5))
	p.got(api.Got{Schema: few(), Points: []api.Point{at(5)}, Skipped: 11, Frames: 2, Rejects: []api.Reject{{At: 7, Why: api.ErrNone}}})
	p.closedForGood()
}

// Such frames are told by the call whose bytes show that none begins ahead of them.
func TestToldLater(t *testing.T) {
	five, six := events(at(5)), events(at(6))
	b := "\xc7TG\x01\x02\x1f" // 31 bytes and a sum of 4 aren't there yet
	p := newPlayer(t, "one chunk")
	p.give(own()+b+five+six, 34, 28)
	p.give("\x00\x00\x00\x00\x00\x00", 40, 28)
	p.give("\x00"+six[:5], 5, 62, at(5), at(6))
	p.close()
	p.got(api.Got{Schema: few(), Points: []api.Point{at(5), at(6)}, Skipped: 18, Frames: 3})
	p = newPlayer(t, "byte by byte")
	all := b + five + six + "\x00\x00\x00\x00\x00\x00\x00"
	p.give(own(), 0, 28)
	for i := range len(all) - 1 {
		p.give(all[i:i+1], i+1, 28)
	}
	p.give(all[len(all)-1:], 0, 62, at(5), at(6))
	p.close()
	p.closedForGood()
	p = newPlayer(t, "a frame that begins there")
	outer := at(4, ev(2, text(five)))
	b = events(outer)
	p.give(own()+b[:len(b)-1], len(b)-1, 28)
	p.give(b[len(b)-1:]+five, 0, 42+len(b), outer, at(5))
	p.close()
	p.got(api.Got{Schema: few(), Points: []api.Point{outer, at(5)}, Frames: 3})
}

// Half frames at the end are skipped, wherever they are cut off.
func TestCutOff(t *testing.T) {
	five, b := events(at(5)), events(at(6, ev(2, text(long(150)))))
	for cut := 1; cut < len(b); cut++ {
		p := newPlayer(t, fmt.Sprintf("cut off at %d", cut))
		p.give(own()+five+b[:cut], cut, 42, at(5))
		p.close()
		p.got(api.Got{Schema: few(), Points: []api.Point{at(5)}, Skipped: cut, Frames: 2})
		p.closedForGood()
	}
}

// The longest frames: all but one of their bytes are held, and no more.
func TestLongestFrames(t *testing.T) {
	full := whole(2, "\x05\x01\x00"+number(1024)+strings.Repeat("\x01\xff\xff\x01", 1000)+strings.Repeat("\x00", 24))
	payload := strings.Repeat("\x00", 4096)
	odd := whole(1, payload)
	if len(odd) != 4107 || len(full) != 4040 {
		t.Fatalf("%d and %d bytes", len(odd), len(full))
	}
	var many []api.Event
	for i := range 1024 {
		if i < 1000 {
			many = append(many, ev(1, num(-16384)))
		} else {
			many = append(many, ev(0))
		}
	}
	p := newPlayer(t, "longest frames")
	p.give(own()+full[:4039], 4039, 28)
	p.give(full[4039:]+odd[:4106], 4106, 4068, at(5, many...))
	p.give(odd[4106:], 0, 8175)
	p.give(odd[:4106], 4106, 8175)
	p.close()
	p.got(api.Got{Schema: few(), Points: []api.Point{at(5, many...)}, Skipped: 4106, Frames: 2, Rejects: []api.Reject{{At: 4068, Why: api.ErrForm}}})
	p.closedForGood()
	p = newPlayer(t, "longest frames, turned")
	p.give(own()+turned(odd, 4100, 1)+full[:100], 100, 28)
	p.give(full[100:], 0, 28+4107+4040, at(5, many...))
	p.close()
	p.got(api.Got{Schema: few(), Points: []api.Point{at(5, many...)}, Skipped: 4107, Frames: 2})
}

// What was read of all bytes at once is read of them in a stream, at any time of as many as were told; the signature, too, is told as soon as its frame is.
func TestGotAtAnyTime(t *testing.T) {
	b := "\x00" + events(at(1)) + own() + events(at(2), at(3)) + "\x01\x02" + events(at(1)) + events(at(3, ev(0))) + head(pred("z"))
	s := stream.New()
	var points []api.Point
	for i := range b {
		l, e := s.Give([]byte(b[i : i+1]))
		if e != api.OK {
			t.Fatalf("the byte %d: %d", i, e)
		}
		points = append(points, l...)
		g, want := s.Got(), read.Of([]byte(b[:s.Sure()]))
		if told(g) != told(want) || toldPoints(g.Points) != toldPoints(points) {
			t.Errorf("behind the byte %d: %s, want %s", i, brief(told(g)), brief(told(want)))
		}
	}
}
