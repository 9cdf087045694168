package stream_test

import (
	"fmt"
	"math"
	"math/rand"
	"slices"
	"strings"
	"testing"

	"tachograph/api"
	"tachograph/read"
	"tachograph/sig"
	"tachograph/stream"
	"tachograph/trace"
	"tachograph/write"
)

// drawer draws bytes from a seed.
type drawer struct {
	*rand.Rand
	time uint64 // about which the next points are
}

// newDrawer is a drawer of a seed.
func newDrawer(seed int64) *drawer {
	return &drawer{Rand: rand.New(rand.NewSource(seed)), time: 7}
}

// event is any event of few.
func (d *drawer) event() api.Event {
	i := d.Intn(4)
	e := ev(i)
	for _, typ := range few()[i].Args {
		if typ == 1 {
			e.Args = append(e.Args, num(int64(d.Uint64())>>d.Intn(64)))
		} else {
			e.Args = append(e.Args, text(long(d.Intn(4))))
		}
	}
	return e
}

// points are some of few, most often behind the ones that were drawn ahead.
func (d *drawer) points() []api.Point {
	var points []api.Point
	time := d.time - uint64(d.Intn(10)/8)
	for range 1 + d.Intn(3) {
		p := at(time)
		for range d.Intn(3) {
			p.Events = append(p.Events, d.event())
		}
		points = append(points, p)
		time += uint64(d.Intn(3))
	}
	d.time = time
	return points
}

// noise are any bytes, often those of marks.
func (d *drawer) noise() string {
	b := make([]byte, d.Intn(12))
	for i := range b {
		b[i] = byte(d.Intn(256))
		if d.Intn(2) == 0 {
			b[i] = "\xc7TG\x01\x02\x00"[d.Intn(6)]
		}
	}
	return string(b)
}

// half are the front of a frame that isn't there, which may yet begin for some bytes behind.
func (d *drawer) half() string {
	return "\xc7TG\x01" + string([]byte{byte(1 + d.Intn(2)), byte(d.Intn(128))})
}

// frame are the bytes of a whole frame.
func (d *drawer) frame() string {
	switch d.Intn(8) {
	case 0:
		return own()
	case 1:
		return head(few()[d.Intn(4):]...)
	case 2:
		l := refusals()
		return l[d.Intn(len(l))].b
	case 3:
		return whole(byte(1+d.Intn(2)), d.noise())
	case 4:
		p := at(d.time, ev(2, text(events(d.points()...)+d.half())))
		return events(p)
	}
	return events(d.points()...)
}

// piece are some bytes.
func (d *drawer) piece() string {
	b := d.frame()
	switch d.Intn(12) {
	case 0:
		return d.noise()
	case 1, 2:
		return turned(b, d.Intn(len(b)), byte(1+d.Intn(255)))
	case 3:
		return b[:d.Intn(len(b))]
	case 4:
		return b[d.Intn(len(b)):]
	case 5:
		return d.half()
	case 6:
		return own()
	}
	return b
}

// row are the bytes of some pieces, most often with few's signature at or near the front.
func (d *drawer) row() string {
	var b strings.Builder
	for i := range d.Intn(30) {
		if i == 1 && d.Intn(2) == 0 {
			b.WriteString(own())
		}
		b.WriteString(d.piece())
	}
	return b.String()
}

// sizes are some for chunks.
func (d *drawer) sizes() []int {
	var l []int
	most := []int{2, 5, 20, 60, 5000}[d.Intn(5)]
	for range 1 + d.Intn(5) {
		l = append(l, 1+d.Intn(most))
	}
	return l
}

// checkChunked holds that bytes in chunks are read as they are at once, if nothing is asked in between.
func checkChunked(t *testing.T, name string, want api.Got, chunks ...[]byte) {
	t.Helper()
	s := stream.New()
	var points []api.Point
	size := 0
	for _, chunk := range chunks {
		l, e := s.Give(chunk)
		if e != api.OK {
			t.Fatalf("%s: Give has the error %d", name, e)
		}
		points = append(points, l...)
		size += len(chunk)
	}
	l, e := s.Close()
	points = append(points, l...)
	if e != api.OK || s.Sure() != size || s.Held() != 0 {
		t.Errorf("%s: Close has the error %d, %d are sure and %d held of %d", name, e, s.Sure(), s.Held(), size)
	}
	if g := s.Got(); !same(g, want) || !trace.Same(points, want.Points) {
		t.Errorf("%s: %s\nanswered %s\nwant %s", name, brief(told(g)), brief(toldPoints(points)), brief(told(want)))
	}
}

// same tells whether the same was read.
func same(a, b api.Got) bool {
	return sig.Same(a.Schema, b.Schema) && trace.Same(a.Points, b.Points) && a.Skipped == b.Skipped && a.Frames == b.Frames && slices.Equal(a.Rejects, b.Rejects)
}

// checkSizes holds bytes in chunks of every size, and with no sizes.
func checkSizes(t *testing.T, name, b string, step int) {
	t.Helper()
	want := read.Of([]byte(b))
	for size := 1; size <= len(b)+1; size += step {
		checkChunked(t, fmt.Sprintf("%s, in chunks of %d", name, size), want, stream.Chunks([]byte(b), size)...)
	}
	checkChunked(t, name+", at once", want, []byte(b))
	checkChunked(t, name+", with no sizes", want, stream.Chunks([]byte(b))...)
}

// checkCuts holds bytes in all ways of two and three chunks, also of no bytes.
func checkCuts(t *testing.T, name, b string) {
	t.Helper()
	want := read.Of([]byte(b))
	for from := range len(b) + 1 {
		checkChunked(t, fmt.Sprintf("%s, cut at %d", name, from), want, []byte(b[:from]), []byte(b[from:]))
		for to := from; to <= len(b); to++ {
			checkChunked(t, fmt.Sprintf("%s, cut at %d and %d", name, from, to), want, []byte(b[:from]), []byte(b[from:to]), []byte(b[to:]))
		}
	}
}

// Chunks of every size, of bytes of all sorts.
func TestEverySize(t *testing.T) {
	t.Parallel()
	for i, b := range someBytes() {
		checkSizes(t, fmt.Sprintf("the row %d", i), b, 1)
	}
	for seed := range int64(60) {
		checkSizes(t, fmt.Sprintf("the seed %d", 1000+seed), newDrawer(1000+seed).row(), 1)
	}
}

// All ways of two and three chunks, of short bytes of all sorts.
func TestEveryCut(t *testing.T) {
	t.Parallel()
	l := []api.Pred{pred("p")}
	b, four, five := head(l...), whole(2, "\x04\x01\x00\x00"), whole(2, "\x05\x01\x00\x01\x00")
	for i, b := range []string{
		"", "\x00", "\xc7\xc7TG\x01", b, b + five, b + five + four + five, four + b + five, "\x00" + b + "\xc7" + five + "\x01\x02", b + head(pred("q")) + five,
		b + "\xc7TG\x01\x02\x20" + four + five, b + "\xc7TG\x01\x02\x07" + five + four, b + "\xc7TG\x01\x01" + five, b + turned(five, 14, 1) + five, b[:13] + b + five[:14] + five,
		b + whole(2, four) + five, turned(whole(2, b+four), 4, 2) + five, whole(1, "\x01") + b + whole(2, "") + four, b + five + "\xc7TG\x01\x02\xff\x1f" + four, five[3:] + b + four[:9],
	} {
		checkCuts(t, fmt.Sprintf("the bytes %d", i), b)
	}
}

// Sizes drawn from fixed seeds, for bytes drawn from them, with chunks of no bytes in between.
func TestDrawnSizes(t *testing.T) {
	t.Parallel()
	for seed := range int64(1000) {
		d := newDrawer(seed)
		b := d.row() + d.row()
		want := read.Of([]byte(b))
		for range 3 {
			sizes := d.sizes()
			chunks := stream.Chunks([]byte(b), sizes...)
			name := fmt.Sprintf("the seed %d, the sizes %v", seed, sizes)
			checkChunked(t, name, want, chunks...)
			chunks = slices.Insert(chunks, d.Intn(len(chunks)+1), nil, []byte{})
			checkChunked(t, name+", with no bytes", want, chunks...)
		}
	}
}

// Any bytes, and any of those that a frame begins with.
func TestDrawnNoise(t *testing.T) {
	t.Parallel()
	for seed := range int64(300) {
		d := newDrawer(seed)
		var b strings.Builder
		for range d.Intn(40) {
			b.WriteString(d.noise())
		}
		checkSizes(t, fmt.Sprintf("the seed %d", seed), b.String(), 1+b.Len()/20)
	}
	for _, b := range lists([]byte("\xc7TG\x01\x02\x00"), 5) {
		checkSizes(t, fmt.Sprintf("%x", b), string(b), 1)
	}
}

// checkWritten holds that what layer 17 writes of a trace is read as that from chunks of any sizes, and nothing is skipped or refused.
func checkWritten(t *testing.T, name string, points []api.Point, most int, sizes ...int) {
	t.Helper()
	b, e := write.Bytes(few(), points, most)
	parts, e2 := write.Frames(few(), points, most)
	if e != api.OK || e2 != api.OK {
		t.Fatalf("%s: layer 17 has the errors %d and %d", name, e, e2)
	}
	want := api.Got{Schema: few(), Points: points, Frames: len(parts)}
	checkChunked(t, fmt.Sprintf("%s, most %d, the sizes %v", name, most, sizes), want, stream.Chunks(b, sizes...)...)
}

// What is written is read as it is.
func TestWritten(t *testing.T) {
	t.Parallel()
	d := newDrawer(1)
	traces := map[string][]api.Point{
		"none":  nil,
		"three": {at(0), at(0, ev(3, text("a"), num(math.MinInt64), text(""))), at(math.MaxUint64, ev(1, num(math.MaxInt64)), ev(0))},
		"great": slices.Repeat([]api.Point{at(7, slices.Repeat([]api.Event{ev(1, num(-9999))}, 1000)...)}, 4),
	}
	for i := range 100 {
		traces["texts"] = append(traces["texts"], at(uint64(i/3), ev(2, text(fmt.Sprint(i*i%60)+long(i))), ev(3, text(fmt.Sprint(i%7)), num(int64(i)), text(long(200-i)))))
		traces["small"] = append(traces["small"], at(uint64(i)<<50, d.event()))
	}
	for name, points := range traces {
		for _, most := range []int{1, 2, 3, 17, 1024, math.MaxInt} {
			for _, size := range []int{1, 2, 7, 100, 4106, 4107, 5000} {
				checkWritten(t, name, points, most, size)
			}
			for seed := range int64(5) {
				checkWritten(t, name, points, most, newDrawer(seed).sizes()...)
			}
		}
	}
}

// Long frames that are hurt, in which others stand, and that are cut off.
func TestLongChunked(t *testing.T) {
	t.Parallel()
	p := at(9, slices.Repeat([]api.Event{ev(2, text(events(at(3))+long(150)))}, 100)...)
	for i := range 18 {
		p.Events = append(p.Events, ev(2, text(fmt.Sprint(i)+events(at(uint64(i)))+long(180))))
	}
	b := events(p)
	if len(b) < 3900 {
		t.Fatalf("%d bytes", len(b))
	}
	for i, b := range []string{own() + b + events(at(9)), own() + turned(b, len(b)-1, 1) + events(at(9)), own() + b[:len(b)-1], own() + turned(b, 5, 1) + b, own() + yet + b + b} {
		checkSizes(t, fmt.Sprintf("the bytes %d", i), b, 97)
	}
}
