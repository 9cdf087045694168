package stream_test

import (
	"encoding/binary"
	"fmt"
	"hash/crc32"
	"slices"
	"strings"
	"testing"

	"tachograph/api"
	"tachograph/block"
	"tachograph/feed"
	"tachograph/read"
	"tachograph/sigbin"
	"tachograph/stream"
)

// pred is a predicate of a name and arguments' types.
func pred(name string, args ...int) api.Pred {
	return api.Pred{Name: name, Args: args}
}

// num and text are arguments of the two types.
func num(n int64) api.Arg { return api.Arg{Type: 1, N: n} }

func text(s string) api.Arg { return api.Arg{Type: 2, S: s} }

// ev is an event of a predicate's number and arguments.
func ev(p int, args ...api.Arg) api.Event {
	return api.Event{Pred: p, Args: args}
}

// at is a point of a time and events.
func at(time uint64, events ...api.Event) api.Point {
	return api.Point{At: time, Events: events}
}

// long is a text of some size.
func long(size int) string { return strings.Repeat("x", size) }

// few is a signature of predicates with none, one and more arguments.
func few() []api.Pred {
	return []api.Pred{pred("q"), pred("p", 1), pred("s", 2), pred("b", 2, 1, 2)}
}

// number are a number's bytes, by the library.
func number(n int) string { return string(binary.AppendUvarint(nil, uint64(n))) }

// whole are the bytes of a frame, by the library.
func whole(kind byte, payload string) string {
	body := string(kind) + number(len(payload)) + payload
	return "\xc7TG\x01" + body + string(binary.LittleEndian.AppendUint32(nil, crc32.ChecksumIEEE([]byte(body))))
}

// head are the bytes of a signature's frame, by layer 11.
func head(l ...api.Pred) string {
	b, e := sigbin.Frame(l)
	if e != api.OK {
		panic(fmt.Sprintf("layer 11 has error %d", e))
	}
	return string(b)
}

// own are the bytes of few's frame.
func own() string { return head(few()...) }

// events are the bytes of the frame of points of few, by layer 14.
func events(points ...api.Point) string {
	b, e := block.Frame(few(), points)
	if e != api.OK {
		panic(fmt.Sprintf("layer 14 has error %d", e))
	}
	return string(b)
}

// turned are bytes with one of them another one.
func turned(b string, place int, by byte) string {
	return b[:place] + string([]byte{b[place] ^ by}) + b[place+1:]
}

// toldPreds are predicates, so that no two lists that aren't the same are told alike.
func toldPreds(l []api.Pred) string {
	var b strings.Builder
	for _, p := range l {
		fmt.Fprintf(&b, "%+q%v;", p.Name, p.Args)
	}
	return b.String()
}

// toldPoints are points, likewise.
func toldPoints(t []api.Point) string {
	var b strings.Builder
	for _, p := range t {
		fmt.Fprintf(&b, "@%d", p.At)
		for _, e := range p.Events {
			fmt.Fprintf(&b, " %d(", e.Pred)
			for _, a := range e.Args {
				fmt.Fprintf(&b, "[%d %d %+q]", a.Type, a.N, a.S)
			}
			b.WriteString(")")
		}
		b.WriteString(";")
	}
	return b.String()
}

// told is what was read, likewise.
func told(g api.Got) string {
	return fmt.Sprintf("skipped %d, frames %d, rejects %v, schema %s, points %s", g.Skipped, g.Frames, g.Rejects, toldPreds(g.Schema), toldPoints(g.Points))
}

// brief is the front of what is told, so that a failure can be read.
func brief(s string) string { return s[:min(len(s), 400)] }

// short is the front of bytes, likewise.
func short(b string) string { return fmt.Sprintf("%d bytes, %x", len(b), b[:min(len(b), 60)]) }

// lists are all lists of up to so many of some.
func lists[T any](of []T, most int) [][]T {
	all := [][]T{nil}
	for i := 0; i < len(all); i++ {
		if len(all[i]) < most {
			for _, x := range of {
				all = append(all, append(slices.Clone(all[i]), x))
			}
		}
	}
	return all
}

// state is what a stream tells between two calls.
type state struct {
	got        api.Got
	held, sure int
}

// modelOf is the state of a stream that was given bytes, in whatever chunks, and may be closed: by layers 8 and 18, of all of them at once.
func modelOf(given string, closed bool) state {
	f, k := feed.New(), read.New()
	parts, _ := f.Give([]byte(given))
	if closed {
		rest, _ := f.Close()
		parts = append(parts, rest...)
	}
	k.Take(parts)
	want := state{got: k.Got(), held: f.Held()}
	for _, part := range parts {
		want.sure += part.N
	}
	return want
}

// checkState holds a stream's state, asked twice and in another order.
func checkState(t *testing.T, name string, s *stream.Stream, want state) {
	t.Helper()
	held, sure, g := s.Held(), s.Sure(), s.Got()
	if told(g) != told(want.got) || held != want.held || sure != want.sure {
		t.Errorf("%s: held %d, sure %d, %s\nwant %d, %d, %s", name, held, sure, brief(told(g)), want.held, want.sure, brief(told(want.got)))
	}
	if g = s.Got(); told(g) != told(want.got) || s.Sure() != sure || s.Held() != held {
		t.Errorf("%s, asked again: held %d, sure %d, %s", name, s.Held(), s.Sure(), brief(told(g)))
	}
}

// checkPoints holds what a call answered.
func checkPoints(t *testing.T, name string, points []api.Point, e api.Errno, want []api.Point, why api.Errno) {
	t.Helper()
	if toldPoints(points) != toldPoints(want) || e != why {
		t.Errorf("%s = %s, %d, want %s, %d", name, brief(toldPoints(points)), e, brief(toldPoints(want)), why)
	}
}

// player makes calls of a stream, and holds each one and the state behind it against the model.
type player struct {
	*testing.T
	name   string
	s      *stream.Stream
	given  string
	closed bool
	was    state
}

// newPlayer is a player of a new stream.
func newPlayer(t *testing.T, name string) *player {
	p := &player{T: t, name: name, s: stream.New()}
	checkState(t, name+", new", p.s, p.was)
	return p
}

// next goes on to the model's state behind a call, and answers the points that are new in it.
func (p *player) next(chunk string, closed bool) []api.Point {
	if p.closed {
		return nil
	}
	p.given, p.closed = p.given+chunk, closed
	ahead := len(p.was.got.Points)
	p.was = modelOf(p.given, closed)
	return p.was.got.Points[ahead:]
}

// why is what Give and Close of the stream answer now.
func (p *player) why() api.Errno {
	if p.closed {
		return api.ErrArg
	}
	return api.OK
}

// play is a call of Give.
func (p *player) play(chunk string) {
	p.Helper()
	why := p.why()
	want := p.next(chunk, false)
	name := fmt.Sprintf("%s: Give of %s, up to %d", p.name, short(chunk), len(p.given))
	points, e := p.s.Give([]byte(chunk))
	checkPoints(p.T, name, points, e, want, why)
	checkState(p.T, name, p.s, p.was)
	p.checkBounds(name)
}

// shut is a call of Close.
func (p *player) shut() {
	p.Helper()
	why := p.why()
	want := p.next("", true)
	name := fmt.Sprintf("%s: Close behind %d", p.name, len(p.given))
	points, e := p.s.Close()
	checkPoints(p.T, name, points, e, want, why)
	checkState(p.T, name, p.s, p.was)
	p.checkBounds(name)
}

// give is a call of Give whose points were worked out by hand, as was the state behind it.
func (p *player) give(chunk string, held, sure int, want ...api.Point) {
	p.Helper()
	p.is(held, sure, want, func() { p.play(chunk) })
}

// close is a call of Close, likewise.
func (p *player) close(want ...api.Point) {
	p.Helper()
	p.is(0, len(p.given), want, p.shut)
}

// is holds the model behind a call against what was worked out by hand.
func (p *player) is(held, sure int, want []api.Point, call func()) {
	p.Helper()
	ahead := len(p.was.got.Points)
	call()
	if fresh := p.was.got.Points[ahead:]; toldPoints(fresh) != toldPoints(want) {
		p.Errorf("%s, up to %d: by the model the points are %s, by hand %s", p.name, len(p.given), brief(toldPoints(fresh)), brief(toldPoints(want)))
	}
	if p.was.held != held || p.was.sure != sure {
		p.Errorf("%s, up to %d: by the model %d are held and %d sure, by hand %d and %d", p.name, len(p.given), p.was.held, p.was.sure, held, sure)
	}
}

// got holds what was read up to here against what was worked out by hand.
func (p *player) got(want api.Got) {
	p.Helper()
	if g := p.s.Got(); told(g) != told(want) {
		p.Errorf("%s, up to %d: %s, want %s", p.name, len(p.given), brief(told(g)), brief(told(want)))
	}
}

// checkBounds holds what Held and Sure are to each other and to what was given: no byte is both, no frame stands between, no whole longest frame is held, and behind Close all is sure.
func (p *player) checkBounds(name string) {
	p.Helper()
	held, sure := p.s.Held(), p.s.Sure()
	if held < 0 || held > 4106 || sure < 0 || held+sure > len(p.given) || p.closed && (held != 0 || sure != len(p.given)) {
		p.Fatalf("%s: %d are held and %d sure of %d", name, held, sure, len(p.given))
	}
	if g := read.Of([]byte(p.given[sure : len(p.given)-held])); g.Frames+len(g.Rejects) > 0 {
		p.Errorf("%s: %d are held and %d sure of %d, and frames stand between", name, held, sure, len(p.given))
	}
}

// closedForGood holds that a stream that is closed refuses all calls, and that they change nothing.
func (p *player) closedForGood() {
	p.Helper()
	was := told(p.s.Got())
	for _, chunk := range []string{"", own(), "\x00", "\xc7", events(at(1<<63, ev(0)))} {
		p.play(chunk)
		points, e := p.s.Give(nil)
		checkPoints(p.T, p.name+": Give of nil, closed", points, e, nil, api.ErrArg)
		p.shut()
	}
	if now := told(p.s.Got()); now != was {
		p.Errorf("%s: refused calls made it %s, was %s", p.name, brief(now), brief(was))
	}
}
