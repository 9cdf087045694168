package write_test

import (
	"fmt"
	"math"
	"math/rand"
	"runtime"
	"slices"
	"strings"
	"testing"

	"tachograph/api"
	"tachograph/block"
	"tachograph/cut"
	"tachograph/sigbin"
	"tachograph/trace"
	"tachograph/write"
)

// newWriter is a writer, which must be to be had.
func newWriter(t *testing.T, l []api.Pred, most int) *write.Writer {
	t.Helper()
	w, e := write.New(l, most)
	if w == nil || e != api.OK {
		t.Fatalf("New, most %d: error %d", most, e)
	}
	return w
}

// step is a call of a writer, and what it must answer.
type step func(t *testing.T, w *write.Writer, name string)

// adds is a call of Add that adds points, one by one.
func adds(points ...api.Point) step {
	return func(t *testing.T, w *write.Writer, name string) {
		t.Helper()
		for _, p := range points {
			if e := w.Add(p); e != api.OK {
				t.Errorf("%s: Add of %s: error %d", name, brief([]api.Point{p}), e)
			}
		}
	}
}

// refuses is a call of Add that has an error.
func refuses(want api.Errno, p api.Point) step {
	return func(t *testing.T, w *write.Writer, name string) {
		t.Helper()
		if e := w.Add(p); e != want {
			t.Errorf("%s: Add of %s: %d, want error %d", name, brief([]api.Point{p}), e, want)
		}
	}
}

// takes is a call of Take that answers frames.
func takes(frames ...string) step {
	return func(t *testing.T, w *write.Writer, name string) {
		t.Helper()
		if b, want := string(w.Take()), strings.Join(frames, ""); b != want {
			t.Errorf("%s: Take: %s, want %s", name, short(b), short(want))
		}
	}
}

// closes is a call of Close that answers frames.
func closes(frames ...string) step {
	return func(t *testing.T, w *write.Writer, name string) {
		t.Helper()
		if b, want := string(w.Close()), strings.Join(frames, ""); b != want {
			t.Errorf("%s: Close: %s, want %s", name, short(b), short(want))
		}
	}
}

// play goes through steps with a new writer.
func play(t *testing.T, l []api.Pred, most int, steps ...step) {
	t.Helper()
	w := newWriter(t, l, most)
	for i, s := range steps {
		s(t, w, fmt.Sprintf("most %d, step %d", most, i))
	}
}

// stays are steps of a closed writer.
func stays() []step {
	return []step{takes(), refuses(api.ErrArg, at(math.MaxUint64)), closes(), takes(), refuses(api.ErrArg, at(0)), refuses(api.ErrArg, at(9, ev(-1))), refuses(api.ErrArg, tooGreat(9)), closes()}
}

// model is a writer by the chapter's words: it keeps what was added, and works the bytes out anew at each call.
type model struct {
	sig    []api.Pred
	most   int
	added  []api.Point
	taken  int // how many bytes were taken
	closed bool
}

// add is what Add answers.
func (m *model) add(p api.Point) api.Errno {
	if m.closed {
		return api.ErrArg
	}
	points := []api.Point{p}
	if len(m.added) > 0 {
		points = []api.Point{m.added[len(m.added)-1], p}
	}
	if e, _ := trace.Check(m.sig, points); e != api.OK {
		return e
	}
	if size, _ := block.Size(m.sig, []api.Point{p}); size > 4096 {
		return api.ErrLimit
	}
	m.added = append(m.added, p)
	return api.OK
}

// bytes are those of the signature and all that was added, and how many of them are those of the last block's frame.
func (m *model) bytes() (string, int) {
	head, _ := sigbin.Frame(m.sig)
	all, last := string(head), 0
	blocks, _ := cut.Blocks(m.sig, m.added, m.most)
	for _, points := range blocks {
		b, _ := block.Frame(m.sig, points)
		all += string(b)
		last = len(b)
	}
	return all, last
}

// take is what Take answers.
func (m *model) take() string {
	if m.closed {
		return ""
	}
	all, last := m.bytes()
	b := all[m.taken : len(all)-last]
	m.taken += len(b)
	return b
}

// close is what Close answers.
func (m *model) close() string {
	if m.closed {
		return ""
	}
	all, _ := m.bytes()
	m.closed = true
	return all[m.taken:]
}

// player plays a writer against the model.
type player struct {
	t    *testing.T
	name string
	w    *write.Writer
	m    model
	out  string // all bytes that the writer answered
}

// newPlayer is a player with a new writer.
func newPlayer(t *testing.T, name string, l []api.Pred, most int) *player {
	t.Helper()
	return &player{t: t, name: name, w: newWriter(t, l, most), m: model{sig: l, most: most}}
}

// add adds a point, and tells whether it was added.
func (p *player) add(point api.Point) bool {
	p.t.Helper()
	got, want := p.w.Add(point), p.m.add(point)
	if got != want {
		p.t.Errorf("%s: behind %d points Add of %s: %d, want %d", p.name, len(p.m.added), brief([]api.Point{point}), got, want)
	}
	return want == api.OK
}

// take takes what is sure.
func (p *player) take() {
	p.t.Helper()
	p.answered("Take", string(p.w.Take()), p.m.take())
}

// close closes it.
func (p *player) close() {
	p.t.Helper()
	p.answered("Close", string(p.w.Close()), p.m.close())
}

// answered holds bytes that were answered.
func (p *player) answered(call, got, want string) {
	p.t.Helper()
	if got != want {
		p.t.Errorf("%s: behind %d points %s: %s, want %s", p.name, len(p.m.added), call, short(got), short(want))
	}
	p.out += got
}

// end closes it, and holds that all that was answered are the bytes of what was added, by Bytes.
func (p *player) end() {
	p.t.Helper()
	p.close()
	if b, e := write.Bytes(p.m.sig, p.m.added, p.m.most); p.out != string(b) || e != api.OK {
		p.t.Errorf("%s: all that was answered is %s, and Bytes %s, %d", p.name, short(p.out), short(string(b)), e)
	}
	p.take()
	p.close()
}

// New has the errors of its most and its signature, in this order, and then no writer.
func TestNewErrors(t *testing.T) {
	check := func(l []api.Pred, most int, want api.Errno) {
		t.Helper()
		if w, e := write.New(l, most); e != want || w != nil {
			t.Errorf("New(%v, %d): a writer %v, %d, want none, %d", l, most, w != nil, e, want)
		}
	}
	for _, most := range noMosts() {
		check(nil, most, api.ErrArg)
		check(few(), most, api.ErrArg)
		for _, x := range wrongSignatures() {
			check(x.l, most, api.ErrArg)
		}
	}
	for _, most := range mosts() {
		for _, x := range wrongSignatures() {
			check(x.l, most, x.want)
		}
		for _, l := range [][]api.Pred{nil, {}, few(), {pred("q")}} {
			play(t, l, most, adds(at(5)))
		}
	}
}

// A writer, call by call, with bytes that were worked out by hand.
func TestKnownCalls(t *testing.T) {
	a, b, c := at(1, ev(2, text("a"))), at(1, ev(1, num(-1)), ev(0)), at(300, ev(3, text("b"), num(7), text("a")))
	head := whole(1, fewPayload)
	one, two, three := whole(2, "\x01\x01\x01\x01a\x01\x02\x00"), whole(2, "\x01\x01\x00\x02\x01\x01\x00"), whole(2, "\xac\x02\x01\x02\x01b\x01a\x01\x03\x00\x0e\x01")
	both, all := whole(2, "\x01\x02\x01\x01a\x01\x02\x00\x00\x02\x01\x01\x00"), whole(2, "\x01\x03\x02\x01a\x01b\x01\x02\x00\x00\x02\x01\x01\x00\xab\x02\x01\x03\x01\x0e\x00")
	for _, x := range []struct {
		most  int
		steps []step
	}{
		{1, []step{closes(head)}},
		{1, []step{takes(head), closes()}},
		{1, []step{takes(head), takes(), takes(), adds(a), takes(), takes(), closes(one)}},
		{1, []step{adds(a), takes(head), takes(), adds(b), takes(one), takes(), adds(c), takes(two), takes(), closes(three)}},
		{1, []step{takes(head), adds(a, b, c), takes(one, two), takes(), closes(three)}},
		{1, []step{adds(a, b, c), takes(head, one, two), closes(three)}},
		{1, []step{adds(a, b, c), closes(head, one, two, three)}},
		{2, []step{takes(head), adds(a), takes(), adds(b), takes(), adds(c), takes(both), takes(), closes(three)}},
		{2, []step{adds(a, b), takes(head), closes(both)}},
		{2, []step{adds(a, b, c), takes(head, both), closes(three)}},
		{2, []step{adds(a, b, c, c, c), takes(head, both, whole(2, "\xac\x02\x02\x02\x01b\x01a\x01\x03\x00\x0e\x01\x00\x01\x03\x00\x0e\x01")), closes(three)}},
		{3, []step{adds(a, b, c), takes(head), takes(), closes(all)}},
		{3, []step{adds(a, b, c), closes(head, all)}},
		{3, []step{adds(a, b), takes(head), adds(c), takes(), adds(c), takes(all), closes(three)}},
		{math.MaxInt, []step{takes(head), adds(a), takes(), adds(b), takes(), adds(c), takes(), closes(all)}},
	} {
		play(t, few(), x.most, append(x.steps, stays()...)...)
	}
	play(t, nil, 1, takes(whole(1, "\x00")), refuses(api.ErrName, b), adds(at(4)), takes(), closes(whole(2, "\x04\x01\x00\x00")))
}

// A text that comes again in the next block is in that block's payload anew, with a number of that block's.
func TestTextsAgainOfAWriter(t *testing.T) {
	one := whole(2, "\x01\x02\x02\x01a\x01b\x02\x02\x00\x02\x01\x00\x01\x02\x01")
	two := whole(2, "\x02\x02\x03\x01b\x01c\x01a\x03\x02\x00\x02\x01\x02\x00\x00\x01\x02\x02")
	play(t, few(), 2, takes(whole(1, fewPayload)),
		adds(listing(1, "a", "b")), takes(), adds(listing(1, "b")), takes(), adds(listing(2, "b", "c", "b")), takes(one),
		adds(listing(2, "a")), takes(), adds(listing(2, "b")), takes(two), closes(whole(2, "\x02\x01\x01\x01b\x01\x02\x00")))
	// 4084 bytes alone, and 4 of each that has one of its texts again.
	l := names(40)
	first, again, fresh := listing(0, l[:20]...), listing(0, l[7]), listing(0, l[30])
	for _, x := range []struct {
		points []api.Point
		sizes  []int
	}{
		{[]api.Point{first, again, again, again}, []int{4}},
		{[]api.Point{first, again, again, again, again}, []int{4, 1}},
		{[]api.Point{again, again, again, again, first}, []int{4, 1}},
		{[]api.Point{first, fresh, again}, []int{1, 2}},
		{[]api.Point{first, first, again, again, again, again}, []int{1, 4, 1}},
	} {
		checkSteady(t, few(), 1024, x.points, x.sizes...)
	}
}

// checkSteady holds a writer from which is taken behind each point, whose blocks have some sizes: the signature's frame comes at once, each block with the point behind it, the last one at the end.
func checkSteady(t *testing.T, l []api.Pred, most int, points []api.Point, sizes ...int) {
	t.Helper()
	frames := sizedFrames(t, l, points, sizes...)
	steps := []step{takes(frames[0])}
	for i, size := range sizes {
		for k := range size {
			steps = append(steps, adds(points[k]))
			if i > 0 && k == 0 {
				steps = append(steps, takes(frames[i]))
			}
			steps = append(steps, takes())
		}
		points = points[size:]
	}
	steps = append(steps, closes(frames[1:][max(0, len(sizes)-1):]...))
	play(t, l, most, append(steps, stays()...)...)
}

// A block is taken as soon as one point is behind it, at as many points as most, one less and one more: not ahead of that.
func TestTakenAsSoonAsSure(t *testing.T) {
	t.Parallel()
	for _, most := range mosts() {
		limit := min(most, 1024)
		for _, count := range []int{0, 1, 2, limit - 1, limit, limit + 1, 2 * limit, 2*limit + 1} {
			if limit > 1000 && count > limit+1 && most != 1024 {
				continue
			}
			checkSteady(t, few(), most, spaced(count, 200, 1), parted(count, limit)...)
		}
	}
	for count := range 20 {
		for most := 1; most <= 21; most++ {
			checkSteady(t, few(), most, spaced(count, 9, 130), parted(count, most)...)
		}
	}
}

// The same, where blocks end by their bytes.
func TestTakenAsSoonAsSureByBytes(t *testing.T) {
	great, half, small := plain(7, 4000), plain(7, 2040), plain(7, 1)
	for _, x := range []struct {
		points []api.Point
		most   int
		sizes  []int
	}{
		{[]api.Point{great, great, small}, 9, []int{1, 2}},
		{[]api.Point{great, small, great, small, small}, 9, []int{2, 3}},
		{[]api.Point{great, small, great, small, small}, 2, []int{2, 2, 1}},
		{[]api.Point{small, small, half, half, small, half, half, small}, 9, []int{5, 3}},
		{[]api.Point{half, great, half, small, great, half}, 9, []int{1, 1, 2, 1, 1}},
		{slices.Repeat([]api.Point{half}, 7), 1024, []int{2, 2, 2, 1}},
		{slices.Repeat([]api.Point{plain(7, 4093)}, 60), math.MaxInt, slices.Repeat([]int{1}, 60)},
		// Just 4096 bytes with the last one, and 4097.
		{[]api.Point{plain(7, 4089), small, small}, 9, []int{3}},
		{[]api.Point{plain(7, 4090), small, small}, 9, []int{2, 1}},
		{[]api.Point{small, small, plain(7, 4089)}, 9, []int{3}},
		{[]api.Point{small, small, plain(7, 4090), small}, 9, []int{2, 2}},
	} {
		checkSteady(t, few(), x.most, x.points, x.sizes...)
	}
}

// Close answers all that is left, and then nothing is left.
func TestClose(t *testing.T) {
	points := spaced(7, 200, 1)
	frames := spacedFrames(fewPayload, 200, 1, 3, 3, 1)
	for _, count := range []int{0, 1, 3, 4, 6, 7} {
		blocks := parted(count, 3)
		all := spacedFrames(fewPayload, 200, 1, blocks...)
		play(t, few(), 3, append([]step{adds(points[:count]...), closes(all...)}, stays()...)...)
		for taken := range count + 1 {
			sure := max(0, len(parted(taken, 3))-1) + 1
			steps := []step{adds(points[:taken]...), takes(frames[:sure]...), adds(points[taken:count]...), closes(all[sure:]...)}
			play(t, few(), 3, append(steps, stays()...)...)
		}
	}
}

// Of a closed writer Add has one error, whatever the point is.
func TestAddToAClosedWriter(t *testing.T) {
	for _, ahead := range [][]api.Point{nil, {at(5)}, {at(5), plain(5, 4000), at(6)}} {
		w := newWriter(t, few(), 2)
		adds(ahead...)(t, w, "closed")
		w.Close()
		for _, x := range wrongEvents() {
			refuses(api.ErrArg, at(5, x.e))(t, w, "closed")
			refuses(api.ErrArg, at(7, ev(0), x.e))(t, w, "closed")
		}
		for _, p := range []api.Point{{}, at(0), at(5), at(7), at(math.MaxUint64), at(7, make([]api.Event, 1025)...), tooGreat(7), tooGreat(0)} {
			refuses(api.ErrArg, p)(t, w, "closed")
		}
		takes()(t, w, "closed")
		closes()(t, w, "closed")
	}
}

// ahead are points of few, the last one at 5, behind which another one is added: none, and some that leave the last block room or none.
func ahead() [][]api.Point {
	return [][]api.Point{nil, {at(5)}, {at(0), at(5, ev(2, text("a")))}, {at(5), at(5), at(5)}, {plain(5, 4000), plain(5, 4000)}, {plain(5, 4093)}, make([]api.Point, 4)}
}

// refused are points that none may add behind points at 5, and why.
func refused() []struct {
	p    api.Point
	want api.Errno
} {
	type row = struct {
		p    api.Point
		want api.Errno
	}
	many := make([]api.Event, 1025)
	wrongMany := append([]api.Event{ev(-1)}, many...)
	var l []row
	for _, x := range wrongEvents() {
		l = append(l, row{at(5, x.e), x.want}, row{at(9, ev(0), x.e, ev(77)), x.want}, row{at(5, append(plain(5, 4090).Events, x.e)...), x.want})
	}
	return append(l,
		row{at(5, many...), api.ErrLimit}, row{at(9, wrongMany...), api.ErrLimit},
		row{tooGreat(5), api.ErrLimit}, row{tooGreat(math.MaxUint64), api.ErrLimit}, row{listing(5, names(21)...), api.ErrLimit},
		row{at(5, slices.Repeat([]api.Event{ev(1, num(8192))}, 1024)...), api.ErrLimit})
}

// Each error of Add, for the first point and for a later one, with any most.
func TestAddErrors(t *testing.T) {
	for _, points := range ahead() {
		for _, most := range []int{1, 2, 3, 1024, math.MaxInt} {
			w := newWriter(t, few(), most)
			adds(points...)(t, w, "ahead")
			for _, x := range refused() {
				refuses(x.want, x.p)(t, w, "behind some")
			}
			adds(at(5))(t, w, "at the same time")
			for _, x := range refused() {
				refuses(x.want, x.p)(t, w, "behind one more")
			}
		}
	}
	p := []api.Pred{pred("p", 1)}
	play(t, p, 1, refuses(api.ErrName, at(1, ev(1))), refuses(api.ErrArg, at(1, ev(0))), refuses(api.ErrType, at(1, ev(0, text("a")))), adds(at(1, ev(0, num(1)))), refuses(api.ErrName, at(1, ev(1))))
	play(t, nil, 1, refuses(api.ErrName, at(1, ev(0))), adds(at(1)))
}

// A time may not be below that of the point that was added last, wherever that stands; the same time may be. Of a point that was refused the time says nothing.
func TestAddOrder(t *testing.T) {
	for _, most := range []int{1, 2, 3, 1024, math.MaxInt} {
		for count := 1; count <= 7; count++ {
			for _, two := range [][]uint64{{1, 0}, {128, 127}, {math.MaxUint64, 0}, {math.MaxUint64, math.MaxUint64 - 1}, {1 << 63, 1<<63 - 1}} {
				last, below := two[0], two[1]
				w := newWriter(t, few(), most)
				adds(slices.Repeat([]api.Point{at(below)}, count-1)...)(t, w, "first")
				adds(at(last))(t, w, "last")
				for range 2 {
					refuses(api.ErrOrder, at(below))(t, w, "below")
					refuses(api.ErrOrder, at(0))(t, w, "below")
					// An order that isn't right is told ahead of all else.
					refuses(api.ErrOrder, at(below, ev(-1)))(t, w, "below, and of no predicate")
					refuses(api.ErrOrder, at(below, make([]api.Event, 1025)...))(t, w, "below, and too many")
					refuses(api.ErrOrder, tooGreat(below))(t, w, "below, and too great")
					adds(at(last))(t, w, "the same time")
					w.Take()
				}
			}
		}
	}
	for _, most := range []int{1, 2, 1024} {
		play(t, few(), most,
			refuses(api.ErrName, at(9, ev(-1))), refuses(api.ErrLimit, tooGreat(9)), adds(at(5)),
			refuses(api.ErrName, at(9, ev(-1))), refuses(api.ErrLimit, tooGreat(9)), adds(at(5)),
			refuses(api.ErrOrder, at(4)), refuses(api.ErrOrder, at(4)), adds(at(6)), refuses(api.ErrOrder, at(5)), adds(at(6)))
	}
}

// A point that doesn't fit alone is refused, also where it would have room behind others; one of 4096 bytes is added.
func TestAddTooGreat(t *testing.T) {
	for _, time := range []uint64{5, 127, 128, 1 << 40, math.MaxUint64} {
		for size := 4095; size <= 4098; size++ {
			p := plain(time, size-len(number(time))-2)
			s := adds(p)
			if size > 4096 {
				s = refuses(api.ErrLimit, p)
			}
			for _, most := range []int{1, 2, 1024} {
				play(t, few(), most, s)
				play(t, few(), most, adds(at(0)), s, adds(at(time)))
				play(t, few(), most, adds(plain(0, 4000), at(3)), s, s)
			}
		}
	}
	great, ahead := lateText(4097)
	fits, _ := lateText(4096)
	if _, e := block.Put(few(), []api.Point{ahead, great}); e != api.OK {
		t.Fatalf("the point has no room behind the other one: %d", e)
	}
	head := whole(1, fewPayload)
	one := func(points ...api.Point) string { return sizedFrames(t, few(), points, len(points))[1] }
	for _, most := range []int{1, 2, 3, 1024} {
		play(t, few(), most, refuses(api.ErrLimit, great), adds(ahead), refuses(api.ErrLimit, great), adds(ahead), refuses(api.ErrLimit, great), adds(fits))
	}
	play(t, few(), 3, adds(ahead), refuses(api.ErrLimit, great), adds(fits), takes(head), refuses(api.ErrLimit, great), adds(ahead), takes(), closes(one(ahead, fits, ahead)))
	play(t, few(), 3, adds(fits), takes(head), adds(ahead), takes(one(fits)), closes(one(ahead)))
}

// A call of Add with an error changes nothing: of two writers, to one of which points that are refused are added wherever they can be, all later answers are the same.
func TestRefusedChangesNothing(t *testing.T) {
	t.Parallel()
	for _, x := range append(refused(), refused()[0]) {
		for _, points := range append(ahead()[1:], []api.Point{at(5), plain(5, 4000), at(5), at(5), plain(6, 2000), plain(6, 2000), plain(6, 2000), at(9)}) {
			for _, most := range []int{1, 2, 3, math.MaxInt} {
				for _, every := range []int{1, 2, 100} {
					one, other := newWriter(t, few(), most), newWriter(t, few(), most)
					for i, p := range points {
						adds(p)(t, one, "without")
						refuses(x.want, at(max(x.p.At, p.At), x.p.Events...))(t, other, "with, ahead")
						adds(p)(t, other, "with")
						refuses(x.want, at(max(x.p.At, p.At), x.p.Events...))(t, other, "with, behind")
						if p.At > 0 {
							refuses(api.ErrOrder, at(p.At-1))(t, other, "with, below")
						}
						if i%every == 0 {
							takes(string(one.Take()))(t, other, "with")
						}
					}
					closes(string(one.Close()))(t, other, "with")
				}
			}
		}
	}
}

// calls are what a player may do, one call each, with the time of the point that was added last: to add small and great points, and ones that none may (but at first), to take and to close.
func calls() []func(p *player, time uint64) {
	l := names(23)
	great, late, tooMuch := listing(0, l[:11]...).Events, listing(0, l[8:20]...).Events, listing(0, l[:21]...).Events
	add := func(more uint64, events ...api.Event) func(p *player, time uint64) {
		return func(p *player, time uint64) { p.add(at(time+more, events...)) }
	}
	return []func(p *player, time uint64){
		func(p *player, _ uint64) { p.take() },
		add(0),
		add(0, great...),
		add(math.MaxUint64), // wraps round: 1 below
		add(1, ev(2, text(l[8])), ev(1, num(-1))),
		add(0, ev(0), ev(77)),
		add(1, tooMuch...),
		func(p *player, _ uint64) { p.close() },
		add(1, late...),
	}
}

// playCalls plays calls by their numbers; the first point's time is about 5.
func playCalls(t *testing.T, name string, most int, all []func(p *player, time uint64), order ...int) {
	t.Helper()
	p := newPlayer(t, name, few(), most)
	for _, i := range order {
		time := uint64(5)
		if n := len(p.m.added); n > 0 {
			time = p.m.added[n-1].At
		}
		all[i](p, time)
	}
	p.end()
}

// Every order of up to four calls, and of up to eight of fewer sorts, with Close behind, against the model.
func TestEveryShortOrder(t *testing.T) {
	t.Parallel()
	all := calls()
	count := 0
	for _, x := range []struct {
		of           []int
		length, most int
	}{
		{[]int{0, 1, 2, 3, 4, 5, 6, 7, 8}, 4, 1},
		{[]int{0, 1, 2, 3, 4, 5, 6, 7, 8}, 4, 2},
		{[]int{0, 1, 2, 4, 6, 7, 8}, 4, 3},
		{[]int{0, 1, 2, 4}, 6, 2},
		{[]int{0, 1, 2, 8}, 6, math.MaxInt},
		{[]int{0, 1, 5}, 8, 3},
	} {
		for _, order := range lists(x.of, x.length) {
			playCalls(t, fmt.Sprintf("most %d, calls %v", x.most, order), x.most, all, order...)
			count++
		}
		if t.Failed() {
			t.FailNow()
		}
	}
	if count < 30000 {
		t.Errorf("there are only %d orders", count)
	}
}

// Long orders of calls, drawn from fixed seeds, against the model.
func TestLongOrders(t *testing.T) {
	t.Parallel()
	all := calls()
	for seed := range int64(60) {
		r := rand.New(rand.NewSource(seed))
		most := []int{1, 2, 3, 5, 17, math.MaxInt}[seed%6]
		var order []int
		// Without Close, so that it goes on; the first calls are drawn more often.
		sorts := []int{0, 1, 2, 3, 4, 5, 6, 8}
		for len(order) < 120 {
			order = append(order, sorts[r.Intn(1+r.Intn(len(sorts)))])
		}
		playCalls(t, fmt.Sprintf("seed %d, most %d", seed, most), most, all, order...)
	}
}

// someTraces are traces of few, of many sorts.
func someTraces() map[string][]api.Point {
	l := names(60)
	traces := map[string][]api.Point{
		"none":   nil,
		"one":    {at(5)},
		"three":  spaced(3, 0, 1),
		"empty":  spaced(1100, 200, 1),
		"times":  spaced(900, 1<<63, 1<<50),
		"great":  slices.Repeat([]api.Point{plain(7, 4000)}, 30),
		"halves": slices.Repeat([]api.Point{plain(7, 2040), at(7)}, 40),
	}
	for i := range 250 {
		traces["texts"] = append(traces["texts"], listing(uint64(i/3), l[i%60], l[i*7%13], fmt.Sprint(i)))
		traces["sizes"] = append(traces["sizes"], plain(uint64(i)<<(i/8), i*i%900+1))
	}
	return traces
}

// What is taken, and what comes at the end, put together, are the bytes of the signature and all that was added, however often it was taken, with points that are refused in between.
func TestBitByBit(t *testing.T) {
	t.Parallel()
	for name, points := range someTraces() {
		for _, most := range []int{1, 2, 3, 1023, 1024, 1025, math.MaxInt} {
			b, e := write.Bytes(few(), points, most)
			if e != api.OK {
				t.Fatalf("Bytes of %s: %d", name, e)
			}
			for _, every := range []int{0, 1, 2, 3, 100} {
				w := newWriter(t, few(), most)
				var all []byte
				for i, p := range points {
					adds(p)(t, w, name)
					if i%5 == 0 {
						refuses(api.ErrName, at(math.MaxUint64, ev(-1)))(t, w, name)
					}
					if every > 0 && (i+1)%every == 0 {
						all = append(all, w.Take()...)
						takes()(t, w, name)
					}
				}
				if all = append(all, w.Close()...); string(all) != string(b) {
					t.Errorf("%s, most %d, taken behind each %d: %s, want %s", name, most, every, short(string(all)), short(string(b)))
				}
			}
		}
	}
}

// What was handed in stays as it was, and isn't kept: a signature and points that are written into later change nothing.
func TestWriterKeepsNothingHandedIn(t *testing.T) {
	frames := crowdedFrames()
	l, points := crowded()
	was := room(l, points)
	w := newWriter(t, l, 2)
	adds(points...)(t, w, "crowded")
	refuses(api.ErrOrder, points[:4][3])(t, w, "crowded")
	takes(frames[:2]...)(t, w, "crowded")
	closes(frames[2])(t, w, "crowded")
	if now := room(l, points); now != was {
		t.Errorf("what was handed in is %s, was %s", now, was)
	}
	for _, early := range []bool{false, true} {
		l, points := crowded()
		w, rest := newWriter(t, l, 2), frames
		spoilPreds(l)
		for i := range points {
			// One at a time, in memory of its own, as crowded's points share theirs.
			_, fresh := crowded()
			adds(fresh[i])(t, w, "spoilt")
			spoil(fresh)
			if early && i == 0 {
				takes(frames[0])(t, w, "spoilt")
				rest = frames[1:]
			}
		}
		closes(rest...)(t, w, "spoilt")
	}
}

// What is answered is new memory: whoever writes into it, or behind it, changes nothing that is answered later.
func TestWriterAnswersNewMemory(t *testing.T) {
	for _, most := range []int{1, 2, 3, 5} {
		points := spaced(11, 200, 1)
		want, _ := write.Bytes(few(), points, most)
		for _, every := range []int{1, 2, 4} {
			w := newWriter(t, few(), most)
			var all []byte
			var kept [][]byte
			for i, p := range points {
				adds(p)(t, w, "spoilt")
				if i%every > 0 {
					continue
				}
				b := w.Take()
				kept = append(kept, b)
				all = append(all, b...)
				_ = append(b, "something that stands behind"...)
				spoilBytes(b)
			}
			last := w.Close()
			if all = append(all, last...); string(all) != string(want) {
				t.Errorf("most %d, taken behind each %d: %x, want %x", most, every, all, want)
			}
			spoilBytes(last)
			closes()(t, w, "spoilt")
			for _, b := range kept {
				if strings.Trim(string(b), "\xee") != "" {
					t.Errorf("most %d: what was answered was written over: %x", most, b)
				}
			}
		}
	}
}

// What was answered isn't written over by later calls.
func TestAnswersAreNotWrittenOver(t *testing.T) {
	points := spaced(40, 200, 1)
	for _, most := range []int{1, 2, 3, 7} {
		w := newWriter(t, few(), most)
		var kept [][]byte
		var was []string
		for i, p := range points {
			adds(p)(t, w, "kept")
			if i%3 == 0 {
				kept = append(kept, w.Take())
				was = append(was, string(kept[len(kept)-1]))
			}
		}
		w.Close()
		for i, b := range kept {
			if string(b) != was[i] {
				t.Errorf("most %d: the answer %d became %x, was %x", most, i, b, was[i])
			}
		}
	}
}

// Writers know nothing of each other, whatever is called in between, of signatures of their own.
func TestWritersApart(t *testing.T) {
	for _, most := range []int{1, 2, 1024} {
		one, other := newPlayer(t, "one", few(), most), newPlayer(t, "other", []api.Pred{pred("p", 2)}, 2)
		shared := at(9, ev(2, text("shared")))
		for i := range 12 {
			one.add(at(uint64(i), ev(1, num(int64(i)))))
			other.add(at(uint64(100-i/4), ev(0, text(fmt.Sprint(i)))))
			if i%3 == 0 {
				one.take()
			}
			if i == 6 {
				other.close()
			}
			third := newPlayer(t, "third", few(), 1)
			third.add(shared)
			third.end()
			one.add(shared)
		}
		other.end()
		one.end()
	}
}

// Also a nil list is an empty one.
func TestWriterNilAndEmpty(t *testing.T) {
	for _, l := range [][]api.Pred{{pred("q")}, {{Name: "q", Args: []int{}}}} {
		for _, events := range [][]api.Event{{{}}, {{Args: []api.Arg{}}}} {
			play(t, l, 2, adds(api.Point{Events: events}, api.Point{}), takes(whole(1, "\x01\x01q\x00")), adds(api.Point{Events: []api.Event{}}),
				takes(whole(2, "\x00\x02\x00\x01\x00\x00\x00")), closes(whole(2, "\x00\x01\x00\x00")))
		}
	}
}

// Blocks that were taken aren't kept.
func TestKeepsLittleMemory(t *testing.T) {
	heap := func() uint64 {
		var m runtime.MemStats
		runtime.GC()
		runtime.ReadMemStats(&m)
		return m.HeapAlloc
	}
	w := newWriter(t, few(), 4)
	before := heap()
	for i := range 4000 {
		adds(listing(uint64(i), fmt.Sprintf("%05d", i)+long(195), fmt.Sprintf("%05d", -i)+long(195)))(t, w, "many")
		w.Take()
	}
	if after := heap(); after > before+1<<19 {
		t.Errorf("with one block left %d bytes are kept", after-before)
	}
	w.Close()
}
