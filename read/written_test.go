package read_test

import (
	"fmt"
	"math"
	"slices"
	"strings"
	"testing"

	"tachograph/api"
	"tachograph/read"
	"tachograph/segs"
	"tachograph/write"
)

// checkWritten holds that bytes are read as the signature and the trace that they were written of.
func checkWritten(t *testing.T, name, b string, l []api.Pred, points []api.Point, frames int) {
	t.Helper()
	want := api.Got{Schema: l, Points: points, Frames: frames}
	g := read.Of([]byte(b))
	checkGot(t, name, g, want)
	checkRight(t, name, g)
	checkTrace(t, b, l, points, api.OK)
	k := read.New()
	k.Take(segs.Of([]byte(b)))
	checkGot(t, name+", by a taker", k.Got(), want)
}

// checkBytes holds what layer 17 writes at once: its bytes, and its parts.
func checkBytes(t *testing.T, name string, l []api.Pred, points []api.Point, most int) {
	t.Helper()
	b, e := write.Bytes(l, points, most)
	parts, e2 := write.Frames(l, points, most)
	if e != api.OK || e2 != api.OK {
		t.Fatalf("%s: layer 17 has the errors %d and %d", name, e, e2)
	}
	name = fmt.Sprintf("%s, most %d", name, most)
	checkWritten(t, name, string(b), l, points, len(parts))
	k := read.New()
	k.Take(parts)
	checkGot(t, name+", of its frames", k.Got(), api.Got{Schema: l, Points: points, Frames: len(parts)})
}

// someTraces are traces of few, of many sorts.
func someTraces() map[string][]api.Point {
	traces := map[string][]api.Point{
		"none":  nil,
		"one":   {at(5)},
		"three": {at(0), at(0, ev(3, text("a"), num(math.MinInt64), text(""))), at(math.MaxUint64, ev(1, num(math.MaxInt64)), ev(0))},
		"last":  slices.Repeat([]api.Point{at(math.MaxUint64, ev(0))}, 5),
		"great": slices.Repeat([]api.Point{at(7, slices.Repeat([]api.Event{ev(1, num(-9999))}, 1000)...)}, 4),
	}
	for i := range 1100 {
		traces["empty"] = append(traces["empty"], at(uint64(i)))
		traces["times"] = append(traces["times"], at(uint64(i)<<53, ev(1, num(int64(i)-500))))
	}
	for i := range 200 {
		traces["texts"] = append(traces["texts"], at(uint64(i/3), ev(2, text(fmt.Sprint(i*i%60)+long(i))), ev(3, text(fmt.Sprint(i%7)), num(int64(i)), text(long(200-i)))))
	}
	return traces
}

// What is written of a signature and a trace is read as these, with any most.
func TestWritten(t *testing.T) {
	t.Parallel()
	for name, points := range someTraces() {
		for _, most := range mosts() {
			checkBytes(t, name, few(), points, most)
		}
	}
	for i, l := range append(others(), few()) {
		for _, most := range []int{1, 2, math.MaxInt} {
			checkBytes(t, fmt.Sprint("other signatures, ", i), l, nil, most)
			checkBytes(t, fmt.Sprint("other signatures, ", i), l, []api.Point{at(3), at(3), at(300)}, most)
		}
	}
	var widest []api.Pred
	for i := range 64 {
		widest = append(widest, pred(fmt.Sprintf("p%031d", i), 1, 2, 1, 2, 1, 2, 1, 2))
	}
	checkBytes(t, "the widest signature", widest, []api.Point{at(3, ev(63, num(1), text("a"), num(2), text("b"), num(3), text("a"), num(4), text(long(200))))}, 1)
}

// later are points whose times go on by what was theirs.
func later(steps []api.Point) []api.Point {
	points := slices.Clone(steps)
	for i := 1; i < len(points); i++ {
		points[i].At += points[i-1].At
	}
	return points
}

// All small signatures, and all small traces of each.
func TestAllSmallWritten(t *testing.T) {
	t.Parallel()
	count := 0
	for _, types := range lists([][]int{nil, {1}, {2}, {2, 1}}, 2) {
		var l []api.Pred
		steps := []api.Point{at(0)}
		for i, args := range types {
			l = append(l, pred([]string{"p", "name"}[i], args...))
			for _, value := range []string{"a", "b"} {
				e := ev(i)
				for _, typ := range args {
					e.Args = append(e.Args, map[int]api.Arg{1: num(int64(value[0]) - 98), 2: text(value)}[typ])
				}
				steps = append(steps, at(uint64(100*i), e))
			}
		}
		for _, row := range lists(steps, 3) {
			for most := 1; most <= 3; most++ {
				checkBytes(t, toldPreds(l)+toldPoints(row), l, later(row), most)
				count++
			}
		}
	}
	if count < 5000 {
		t.Errorf("there are only %d", count)
	}
}

// player is a writer, with what was added to it and the bytes that were taken.
type player struct {
	w     *write.Writer
	added []api.Point
	taken string
}

// play makes a call by its number: Add of a small or a great point, of one that is refused, or Take.
func (p *player) play(t *testing.T, call int) {
	t.Helper()
	time := uint64(0)
	if len(p.added) > 0 {
		time = p.added[len(p.added)-1].At
	}
	small, great := at(time+uint64(call), ev(2, text("a")), ev(1, num(-1))), at(time)
	// More than half of what a payload has room for.
	for i := range 11 {
		great.Events = append(great.Events, ev(2, text(fmt.Sprint(i%10)+long(189+i))))
	}
	switch call {
	case 0, 1, 2:
		p.add(t, small, api.OK)
	case 3:
		p.add(t, great, api.OK)
	case 4:
		p.add(t, at(time, ev(-1)), api.ErrName)
	case 5:
		p.taken += string(p.w.Take())
	}
}

// add is a call of Add.
func (p *player) add(t *testing.T, point api.Point, want api.Errno) {
	t.Helper()
	if e := p.w.Add(point); e != want {
		t.Fatalf("layer 17 has the error %d, want %d", e, want)
	}
	if want == api.OK {
		p.added = append(p.added, point)
	}
}

// playCalls holds what a writer wrote in some order of calls.
func playCalls(t *testing.T, name string, most int, calls ...int) {
	t.Helper()
	w, e := write.New(few(), most)
	if e != api.OK {
		t.Fatalf("layer 17 has the error %d", e)
	}
	p := player{w: w}
	for _, call := range calls {
		p.play(t, call)
	}
	p.taken += string(w.Close())
	parts, _ := write.Frames(few(), p.added, most)
	checkWritten(t, name, p.taken, few(), p.added, len(parts))
}

// What a writer wrote is read as the signature and what was added, in every order of up to four calls, and in long ones drawn from fixed seeds.
func TestWriterWritten(t *testing.T) {
	t.Parallel()
	for _, calls := range lists([]int{0, 1, 3, 4, 5}, 4) {
		for _, most := range []int{1, 2, math.MaxInt} {
			playCalls(t, fmt.Sprintf("most %d, calls %v", most, calls), most, calls...)
		}
	}
	for seed := range int64(60) {
		d := newDrawer(seed)
		var calls []int
		for range 150 {
			calls = append(calls, d.Intn(1+d.Intn(6)))
		}
		most := []int{1, 2, 3, 17, 1024, math.MaxInt}[seed%6]
		playCalls(t, fmt.Sprintf("most %d, seed %d", most, seed), most, calls...)
	}
}

// Traces written one behind the other are read as one, if they have the same signature and their times allow it; else all that is right of them is.
func TestWrittenTwice(t *testing.T) {
	one, two := []api.Point{at(3, ev(2, text("a"))), at(9)}, []api.Point{at(9, ev(2, text("b"))), at(10)}
	a, _ := write.Bytes(few(), one, 1)
	b, _ := write.Bytes(few(), two, 2)
	c, _ := write.Bytes(few()[:3], two, 2)
	both := string(a) + string(b)
	checkWritten(t, "both", both, few(), slices.Concat(one, two), 5)
	checkOf(t, both+both, api.Got{Schema: few(), Points: slices.Concat(one, two), Frames: 7, Rejects: []api.Reject{
		{At: strings.LastIndex(both, events(one[0])) + len(both), Why: api.ErrOrder}, {At: strings.LastIndex(both, events(one[1])) + len(both), Why: api.ErrOrder}, {At: strings.LastIndex(both, events(two...)) + len(both), Why: api.ErrOrder},
	}})
	checkOf(t, string(a)+"\x00"+string(c), api.Got{Schema: few(), Points: slices.Concat(one, two), Skipped: 1, Frames: 4, Rejects: []api.Reject{{At: len(a) + 1, Why: api.ErrType}}})
}

// A long trace is read whole, though bytes are skipped and frames refused all over it.
func TestManyFrames(t *testing.T) {
	pieces := []piece{taken(head(few()...))}
	var points []api.Point
	for i := range 2000 {
		p := at(uint64(i+1), ev(2, text(fmt.Sprint(i))))
		points = append(points, p)
		pieces = append(pieces, taken(events(p)))
		switch i % 5 {
		case 1:
			pieces = append(pieces, skipped("\xc7"))
		case 2:
			pieces = append(pieces, refused(events(at(uint64(i))), api.ErrOrder))
		case 3:
			pieces = append(pieces, refused(whole(2, "\x05"), api.ErrShort), taken(head(few()...)))
		}
	}
	checkPieces(t, few(), points, pieces...)
}
