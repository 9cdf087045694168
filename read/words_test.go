package read_test

import (
	"encoding/binary"
	"fmt"
	"hash/crc32"
	"math"
	"slices"
	"strings"
	"testing"

	"tachograph/api"
	"tachograph/block"
	"tachograph/read"
	"tachograph/segs"
	"tachograph/sig"
	"tachograph/sigbin"
	"tachograph/trace"
	"tachograph/unblock"
)

// pred is a predicate of a name and arguments' types.
func pred(name string, args ...int) api.Pred {
	return api.Pred{Name: name, Args: args}
}

// num and text are arguments of the two types.
func num(n int64) api.Arg { return api.Arg{Type: 1, N: n} }

func text(s string) api.Arg { return api.Arg{Type: 2, S: s} }

// ev is an event of a predicate's number and arguments.
func ev(p int, args ...api.Arg) api.Event {
	return api.Event{Pred: p, Args: args}
}

// at is a point of a time and events.
func at(time uint64, events ...api.Event) api.Point {
	return api.Point{At: time, Events: events}
}

// long is a text of some size.
func long(size int) string { return strings.Repeat("x", size) }

// few is a signature of predicates with none, one and more arguments.
func few() []api.Pred {
	return []api.Pred{pred("q"), pred("p", 1), pred("s", 2), pred("b", 2, 1, 2)}
}

// fewPayload is few's payload, by hand.
const fewPayload = "\x04" + "\x01q\x00" + "\x01p\x01\x01" + "\x01s\x01\x02" + "\x01b\x03\x02\x01\x02"

// number are a number's bytes, by the library.
func number[N int | uint64](n N) string { return string(binary.AppendUvarint(nil, uint64(n))) }

// whole are the bytes of a frame, by the library.
func whole(kind byte, payload string) string {
	body := string(kind) + number(len(payload)) + payload
	return "\xc7TG\x01" + body + string(binary.LittleEndian.AppendUint32(nil, crc32.ChecksumIEEE([]byte(body))))
}

// head are the bytes of a signature's frame, by layer 11.
func head(l ...api.Pred) string {
	b, e := sigbin.Frame(l)
	if e != api.OK {
		panic(fmt.Sprintf("layer 11 has error %d", e))
	}
	return string(b)
}

// events are the bytes of the frame of points of few, by layer 14.
func events(points ...api.Point) string { return eventsOf(few(), points...) }

// eventsOf are the bytes of the frame of points of a signature, likewise.
func eventsOf(l []api.Pred, points ...api.Point) string {
	b, e := block.Frame(l, points)
	if e != api.OK {
		panic(fmt.Sprintf("layer 14 has error %d", e))
	}
	return string(b)
}

// turned are bytes with one of them another one.
func turned(b string, place int, by byte) string {
	return b[:place] + string([]byte{b[place] ^ by}) + b[place+1:]
}

// framePart is a part that a frame is.
func framePart(from, n, kind int, payload string) api.Seg {
	return api.Seg{From: from, N: n, Is: true, Frame: api.Frame{Kind: kind, Payload: []byte(payload)}}
}

// mosts are numbers that a block's points may be held to, small and great ones.
func mosts() []int {
	return []int{1, 2, 3, 4, 5, 127, 128, 129, 512, 1023, 1024, 1025, 2048, 1 << 31, 1 << 32, math.MaxInt - 1, math.MaxInt}
}

// lists are all lists of up to so many of some.
func lists[T any](of []T, most int) [][]T {
	all := [][]T{nil}
	for i := 0; i < len(all); i++ {
		if len(all[i]) < most {
			for _, x := range of {
				all = append(all, append(slices.Clone(all[i]), x))
			}
		}
	}
	return all
}

// toldPreds are predicates, so that no two lists that aren't the same are told alike.
func toldPreds(l []api.Pred) string {
	var b strings.Builder
	for _, p := range l {
		fmt.Fprintf(&b, "%+q%v;", p.Name, p.Args)
	}
	return b.String()
}

// toldPoints are points, likewise.
func toldPoints(t []api.Point) string {
	var b strings.Builder
	for _, p := range t {
		fmt.Fprintf(&b, "@%d", p.At)
		for _, e := range p.Events {
			fmt.Fprintf(&b, " %d(", e.Pred)
			for _, a := range e.Args {
				fmt.Fprintf(&b, "[%d %d %+q]", a.Type, a.N, a.S)
			}
			b.WriteString(")")
		}
		b.WriteString(";")
	}
	return b.String()
}

// told is what was read, likewise.
func told(g api.Got) string {
	return fmt.Sprintf("skipped %d, frames %d, rejects %v, schema %s, points %s", g.Skipped, g.Frames, g.Rejects, toldPreds(g.Schema), toldPoints(g.Points))
}

// brief is the front of what is told, so that a failure can be read.
func brief(s string) string { return s[:min(len(s), 400)] }

// short is the front of bytes, likewise.
func short(b string) string { return fmt.Sprintf("%d bytes, %x", len(b), b[:min(len(b), 100)]) }

// modelOf is what was read of parts, as the chapter says it: the signature that holds is looked for first, and of each frame its place beside that one's is asked.
func modelOf(parts []api.Seg) api.Got {
	var g api.Got
	first := slices.IndexFunc(parts, isSignature)
	if first >= 0 {
		g.Schema, _ = sigbin.Get(parts[first].Frame.Payload)
	}
	for i, part := range parts {
		if !part.Is {
			g.Skipped += part.N
			continue
		}
		points, e := modelFrame(g, part.Frame, first >= 0 && first < i)
		if e != api.OK {
			g.Rejects = append(g.Rejects, api.Reject{At: part.From, Why: e})
			continue
		}
		g.Frames++
		g.Points = append(g.Points, points...)
	}
	return g
}

// isSignature tells whether a part is a frame with a signature, by layer 11.
func isSignature(part api.Seg) bool {
	_, e := sigbin.Get(part.Frame.Payload)
	return part.Is && part.Frame.Kind == 1 && e == api.OK
}

// modelFrame are the points of a frame, or why it is refused, by layers 9, 11, 12 and 15; behind tells whether the signature stands ahead of it.
func modelFrame(g api.Got, f api.Frame, behind bool) ([]api.Point, api.Errno) {
	switch {
	case f.Kind == 1:
		l, e := sigbin.Get(f.Payload)
		if e == api.OK && !sig.Same(l, g.Schema) {
			e = api.ErrType
		}
		return nil, e
	case f.Kind != 2:
		return nil, api.ErrForm
	case !behind:
		return nil, api.ErrNone
	}
	points, e := unblock.Get(g.Schema, f.Payload)
	if e == api.OK {
		e, _ = trace.Check(g.Schema, slices.Concat(g.Points[max(0, len(g.Points)-1):], points))
	}
	return points, e
}

// modelTrace is the chapter's Trace, of what was read of parts, by the model.
func modelTrace(parts []api.Seg) (api.Got, api.Errno) {
	g := modelOf(parts)
	switch {
	case slices.ContainsFunc(parts, func(part api.Seg) bool { return !part.Is }):
		return api.Got{}, api.ErrSum
	case len(g.Rejects) > 0:
		return api.Got{}, g.Rejects[0].Why
	case !slices.ContainsFunc(parts, isSignature):
		return api.Got{}, api.ErrNone
	}
	return g, api.OK
}

// checkGot holds what was read against what should be.
func checkGot(t *testing.T, name string, g, want api.Got) {
	t.Helper()
	if told(g) != told(want) {
		t.Errorf("%s: %s\nwant %s", name, brief(told(g)), brief(told(want)))
	}
}

// checkTrace holds Trace of bytes.
func checkTrace(t *testing.T, b string, l []api.Pred, points []api.Point, want api.Errno) {
	t.Helper()
	schema, all, e := read.Trace([]byte(b))
	if toldPreds(schema) != toldPreds(l) || toldPoints(all) != toldPoints(points) || e != want {
		t.Errorf("Trace of %s: %s, %s, %d, want %s, %s, %d", short(b), brief(toldPreds(schema)), brief(toldPoints(all)), e, brief(toldPreds(l)), brief(toldPoints(points)), want)
	}
}

// checkRight holds that the points that were read are a trace of the signature that was.
func checkRight(t *testing.T, name string, g api.Got) {
	t.Helper()
	if e, place := trace.Check(g.Schema, g.Points); e != api.OK {
		t.Errorf("%s: the points that were read are no trace of the signature: %d, %d", name, e, place)
	}
}

// checkWhole holds that each byte is of a frame that was taken, of one that was refused, or skipped.
func checkWhole(t *testing.T, b string, g api.Got) {
	t.Helper()
	rejects := g.Rejects
	size, taken := g.Skipped, 0
	for _, part := range segs.Frames([]byte(b)) {
		size += part.N
		if len(rejects) > 0 && rejects[0].At == part.From {
			rejects = rejects[1:]
			continue
		}
		taken++
	}
	if size != len(b) || taken != g.Frames || len(rejects) > 0 {
		t.Errorf("of %s %d bytes are of parts; %d frames should be taken, %d are; no frame stands where %v begin", short(b), size, taken, g.Frames, rejects)
	}
}

// checkRead holds Of and Trace of any bytes against the model and the promises, and answers what was read.
func checkRead(t *testing.T, b string) api.Got {
	t.Helper()
	parts := segs.Of([]byte(b))
	g := read.Of([]byte(b))
	checkGot(t, "Of "+short(b), g, modelOf(parts))
	checkRight(t, short(b), g)
	checkWhole(t, b, g)
	want, e := modelTrace(parts)
	checkTrace(t, b, want.Schema, want.Points, e)
	return g
}

// checkOf holds bytes whose frames were worked out by hand.
func checkOf(t *testing.T, b string, want api.Got) {
	t.Helper()
	checkGot(t, "Of "+short(b), checkRead(t, b), want)
}

// piece is some bytes, and what is read of them where they stand: OK, or why a frame is refused; of no frame bytes that are skipped.
type piece struct {
	b    string
	skip bool
	why  api.Errno
}

// taken, refused and skipped are pieces.
func taken(b string) piece { return piece{b: b} }

func refused(b string, why api.Errno) piece { return piece{b: b, why: why} }

func skipped(b string) piece { return piece{b: b, skip: true} }

// checkPieces holds bytes piece by piece: what is told of each one, with where it begins.
func checkPieces(t *testing.T, l []api.Pred, points []api.Point, pieces ...piece) {
	t.Helper()
	want := api.Got{Schema: l, Points: points}
	b := ""
	for _, p := range pieces {
		switch {
		case p.skip:
			want.Skipped += len(p.b)
		case p.why != api.OK:
			want.Rejects = append(want.Rejects, api.Reject{At: len(b), Why: p.why})
		default:
			want.Frames++
		}
		b += p.b
	}
	checkOf(t, b, want)
}
