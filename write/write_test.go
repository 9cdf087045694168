package write_test

import (
	"bytes"
	"fmt"
	"math"
	"slices"
	"strings"
	"testing"

	"tachograph/api"
	"tachograph/block"
	"tachograph/cut"
	"tachograph/segs"
	"tachograph/write"
)

// samePart tells whether two parts are the same.
func samePart(a, b api.Seg) bool {
	return a.From == b.From && a.N == b.N && a.Is == b.Is && a.Frame.Kind == b.Frame.Kind && bytes.Equal(a.Frame.Payload, b.Frame.Payload)
}

// partsOf are the parts that frames are, one behind the other, by the frames' own bytes: of each the payload is what stands ahead of the sum, as much as the length ahead of it tells.
func partsOf(frames []string) []api.Seg {
	var parts []api.Seg
	from := 0
	for _, f := range frames {
		for size := 0; ; size++ {
			if head := 5 + len(number(size)); head+size+4 == len(f) {
				parts = append(parts, api.Seg{From: from, N: len(f), Is: true, Frame: api.Frame{Kind: int(f[4]), Payload: []byte(f[head : head+size])}})
				break
			}
		}
		from += len(f)
	}
	return parts
}

// checkWrite holds Bytes and Frames of a signature and a trace that have bytes, given these's frames.
func checkWrite(t *testing.T, l []api.Pred, points []api.Point, most int, frames ...string) {
	t.Helper()
	want := strings.Join(frames, "")
	b, e := write.Bytes(l, points, most)
	if string(b) != want || e != api.OK {
		t.Errorf("Bytes of %s, most %d: %s, %d, want %s", brief(points), most, short(string(b)), e, short(want))
	}
	parts, e := write.Frames(l, points, most)
	if !slices.EqualFunc(parts, partsOf(frames), samePart) || e != api.OK {
		t.Errorf("Frames of %s, most %d: %d of them, %d, want %d: %v", brief(points), most, len(parts), e, len(frames), parts[:min(len(parts), 3)])
	}
	if whole := segs.Of(b); !slices.EqualFunc(parts, whole, samePart) {
		t.Errorf("of %s, most %d: there are %d frames, and %d parts by layer 7", brief(points), most, len(parts), len(whole))
	}
}

// checkWrong holds Bytes and Frames of what has none.
func checkWrong(t *testing.T, l []api.Pred, points []api.Point, most int, want api.Errno) {
	t.Helper()
	if b, e := write.Bytes(l, points, most); len(b) != 0 || e != want {
		t.Errorf("Bytes of %s, most %d: %s, %d, want none, %d", brief(points), most, short(string(b)), e, want)
	}
	if parts, e := write.Frames(l, points, most); len(parts) != 0 || e != want {
		t.Errorf("Frames of %s, most %d: %d of them, %d, want none, %d", brief(points), most, len(parts), e, want)
	}
	if _, e := cut.Blocks(l, points, most); e != want {
		t.Errorf("layer 16 of %s, most %d: %d, want %d", brief(points), most, e, want)
	}
}

// Of no points the bytes are those of the signature's frame.
func TestNoPoints(t *testing.T) {
	for _, x := range []struct {
		l       []api.Pred
		payload string
	}{
		{nil, "\x00"}, {[]api.Pred{}, "\x00"}, {[]api.Pred{pred("q")}, "\x01\x01q\x00"}, {[]api.Pred{pred("p", 1)}, "\x01\x01p\x01\x01"},
		{[]api.Pred{pred("ab", 2, 1), pred("_", 2)}, "\x02\x02ab\x02\x02\x01\x01_\x01\x02"}, {few(), fewPayload},
	} {
		for _, points := range [][]api.Point{nil, {}, make([]api.Point, 3)[:0], []api.Point{at(3), at(2)}[:0]} {
			for _, most := range mosts() {
				checkWrite(t, x.l, points, most, whole(1, x.payload))
			}
		}
	}
	// The chapters' own: the frame has its mark, kind and length, and its sum behind.
	if b, e := write.Bytes(nil, nil, 1); len(b) != 11 || string(b[:7]) != "\xc7TG\x01\x01\x01\x00" || e != api.OK {
		t.Errorf("of no predicates and no points the bytes are %x, %d", b, e)
	}
}

// The greatest signature, which has a payload of 2689 bytes, and points.
func TestGreatestSignature(t *testing.T) {
	var l []api.Pred
	payload := "\x40"
	for i := range 64 {
		name := fmt.Sprintf("n%02d", i) + long(29)
		l = append(l, pred(name, 2, 2, 2, 2, 2, 2, 2, 2))
		payload += "\x20" + name + "\x08\x02\x02\x02\x02\x02\x02\x02\x02"
	}
	checkWrite(t, l, nil, 1, whole(1, payload))
	a := text("a")
	points := []api.Point{at(5, ev(63, a, a, a, a, a, a, a, a)), at(6)}
	one := whole(2, "\x05\x01\x01\x01a\x01\x3f\x00\x00\x00\x00\x00\x00\x00\x00")
	checkWrite(t, l, points, 1, whole(1, payload), one, whole(2, "\x06\x01\x00\x00"))
}

// Bytes that were worked out by hand.
func TestKnownBytes(t *testing.T) {
	p := []api.Pred{pred("p", 1)}
	five := at(5, ev(0, num(3)))
	checkWrite(t, p, []api.Point{five}, 1, whole(1, "\x01\x01p\x01\x01"), whole(2, "\x05\x01\x00\x01\x00\x06"))
	checkWrite(t, p, []api.Point{five, five}, 1, whole(1, "\x01\x01p\x01\x01"), whole(2, "\x05\x01\x00\x01\x00\x06"), whole(2, "\x05\x01\x00\x01\x00\x06"))
	checkWrite(t, p, []api.Point{five, five}, 2, whole(1, "\x01\x01p\x01\x01"), whole(2, "\x05\x02\x00\x01\x00\x06\x00\x01\x00\x06"))
	a, b, c := at(1, ev(2, text("a"))), at(1, ev(1, num(-1)), ev(0)), at(300, ev(3, text("b"), num(7), text("a")))
	one, two, three := "\x01\x01\x01\x01a\x01\x02\x00", "\x01\x01\x00\x02\x01\x01\x00", "\xac\x02\x01\x02\x01b\x01a\x01\x03\x00\x0e\x01"
	for _, x := range []struct {
		points   []api.Point
		most     int
		payloads []string
	}{
		{[]api.Point{a}, 1, []string{one}},
		{[]api.Point{a}, 1024, []string{one}},
		{[]api.Point{a, b, c}, 1, []string{one, two, three}},
		{[]api.Point{a, b, c}, 2, []string{"\x01\x02\x01\x01a\x01\x02\x00\x00\x02\x01\x01\x00", three}},
		{[]api.Point{a, b, c}, 3, []string{"\x01\x03\x02\x01a\x01b\x01\x02\x00\x00\x02\x01\x01\x00\xab\x02\x01\x03\x01\x0e\x00"}},
		{[]api.Point{b, a, c, c}, 2, []string{"\x01\x02\x01\x01a\x02\x01\x01\x00\x00\x01\x02\x00", "\xac\x02\x02\x02\x01b\x01a\x01\x03\x00\x0e\x01\x00\x01\x03\x00\x0e\x01"}},
		{[]api.Point{at(0), at(5), at(5), at(9), at(math.MaxUint64)}, 2, []string{"\x00\x02\x00\x00\x05\x00", "\x05\x02\x00\x00\x04\x00", "\xff\xff\xff\xff\xff\xff\xff\xff\xff\x01\x01\x00\x00"}},
		{[]api.Point{at(1, ev(1, num(math.MinInt64))), at(math.MaxUint64, ev(1, num(math.MaxInt64)))}, 2, []string{"\x01\x02\x00\x01\x01\xff\xff\xff\xff\xff\xff\xff\xff\xff\x01\xfe\xff\xff\xff\xff\xff\xff\xff\xff\x01\x01\x01\xfe\xff\xff\xff\xff\xff\xff\xff\xff\x01"}},
	} {
		frames := []string{whole(1, fewPayload)}
		for _, payload := range x.payloads {
			frames = append(frames, whole(2, payload))
		}
		checkWrite(t, few(), x.points, x.most, frames...)
	}
}

// A text that comes again in the next block is in that block's payload anew, with a number of that block's.
func TestTextsAgain(t *testing.T) {
	points := []api.Point{listing(1, "a", "b"), listing(1, "b"), listing(2, "b", "c", "b"), listing(2, "a"), listing(2, "b")}
	head := whole(1, fewPayload)
	checkWrite(t, few(), points, 2, head,
		whole(2, "\x01\x02\x02\x01a\x01b\x02\x02\x00\x02\x01\x00\x01\x02\x01"),
		whole(2, "\x02\x02\x03\x01b\x01c\x01a\x03\x02\x00\x02\x01\x02\x00\x00\x01\x02\x02"),
		whole(2, "\x02\x01\x01\x01b\x01\x02\x00"))
	checkWrite(t, few(), points, 4, head,
		whole(2, "\x01\x04\x03\x01a\x01b\x01c\x02\x02\x00\x02\x01\x00\x01\x02\x01\x01\x03\x02\x01\x02\x02\x02\x01\x00\x01\x02\x00"),
		whole(2, "\x02\x01\x01\x01b\x01\x02\x00"))
	// 4084 bytes alone, and 4 of each that has one of its texts again.
	l := names(40)
	first, again, fresh := listing(0, l[:20]...), listing(0, l[7]), listing(0, l[30])
	for _, x := range []struct {
		points []api.Point
		sizes  []int
	}{
		{[]api.Point{first, again, again, again}, []int{4}},
		{[]api.Point{first, again, again, again, again}, []int{4, 1}},
		{[]api.Point{again, again, again, first}, []int{4}},
		{[]api.Point{first, fresh, again}, []int{1, 2}},
		{[]api.Point{first, first}, []int{1, 1}},
		{[]api.Point{first, again, again, again, first, again, again, again, first, again, again, again, again, first}, []int{4, 4, 4, 2}},
	} {
		checkWrite(t, few(), x.points, math.MaxInt, sizedFrames(t, few(), x.points, x.sizes...)...)
	}
}

// Of as many points as most, of one more and less, and of several times as many; a most above 1024 counts as that.
func TestHowManyPoints(t *testing.T) {
	t.Parallel()
	for _, most := range append(mosts(), 4, 5, 127, 128, 129, 512) {
		limit := min(most, 1024)
		for _, count := range []int{1, 2, 3, limit - 1, limit, limit + 1, 2*limit - 1, 2 * limit, 2*limit + 1, 3*limit + 2, 1000, 2100} {
			if count < 1 || count > 2100 {
				continue
			}
			sizes := parted(count, limit)
			checkWrite(t, nil, make([]api.Point, count), most, spacedFrames("\x00", 0, 0, sizes...)...)
			checkWrite(t, few(), spaced(count, 200, 1), most, spacedFrames(fewPayload, 200, 1, sizes...)...)
		}
	}
	for count := range 30 {
		for most := 1; most <= 31; most++ {
			checkWrite(t, few(), spaced(count, 9, 130), most, spacedFrames(fewPayload, 9, 130, parted(count, most)...)...)
		}
	}
}

// A payload of 4096 bytes has room for the next point, and one of 4097 has not.
func TestEndsByBytes(t *testing.T) {
	for _, count := range []int{2, 3, 4, 9, 126, 127, 128, 129, 1023, 1024} {
		// What is left by the first time, how many points there are, no texts, and two bytes of each other point.
		size := 4096 - 1 - len(number(count)) - 1 - 2*(count-1)
		for _, place := range []int{0, 1, count / 2, count - 1} {
			points := make([]api.Point, count)
			points[place] = plain(0, size)
			if b, e := block.Put(few(), points); len(b) != 4096 || e != api.OK {
				t.Fatalf("%d points have %d bytes, %d", count, len(b), e)
			}
			checkWrite(t, few(), points, math.MaxInt, sizedFrames(t, few(), points, count)...)
			checkWrite(t, few(), append(points, at(1)), math.MaxInt, sizedFrames(t, few(), append(points, at(1)), count, 1)...)
			points[place] = plain(0, size+1)
			checkWrite(t, few(), points, math.MaxInt, sizedFrames(t, few(), points, count-1, 1)...)
		}
	}
	great, half, small := plain(7, 4000), plain(7, 2040), plain(7, 1)
	for _, x := range []struct {
		points []api.Point
		most   int
		sizes  []int
	}{
		{[]api.Point{great, great, small}, 9, []int{1, 2}},
		{[]api.Point{great, small, great, small, small}, 9, []int{2, 3}},
		{[]api.Point{great, small, great, small, small}, 2, []int{2, 2, 1}},
		{[]api.Point{small, small, half, half, small, half, half, small}, 9, []int{5, 3}},
		{[]api.Point{half, great, half, small, great, half}, 9, []int{1, 1, 2, 1, 1}},
		{slices.Repeat([]api.Point{half}, 7), 1024, []int{2, 2, 2, 1}},
		{slices.Repeat([]api.Point{plain(7, 4093)}, 300), math.MaxInt, slices.Repeat([]int{1}, 300)},
	} {
		checkWrite(t, few(), x.points, x.most, sizedFrames(t, few(), x.points, x.sizes...)...)
	}
}

// A point that fits alone, and better behind another one.
func TestShorterBehind(t *testing.T) {
	fits, ahead := lateText(4096)
	for _, x := range []struct {
		points []api.Point
		most   int
		sizes  []int
	}{
		{[]api.Point{ahead, fits}, 2, []int{2}},
		{[]api.Point{fits, ahead}, 2, []int{1, 1}},
		{[]api.Point{ahead, ahead, fits, ahead}, 2, []int{2, 1, 1}},
		{[]api.Point{ahead, ahead, fits, ahead}, 9, []int{4}},
	} {
		checkWrite(t, few(), x.points, x.most, sizedFrames(t, few(), x.points, x.sizes...)...)
	}
}

// All small signatures, and all small traces of each, against the frames of layers 11 and 14 of layer 16's blocks.
func TestAllSmall(t *testing.T) {
	t.Parallel()
	count := 0
	for _, types := range lists([][]int{nil, {1}, {2}, {2, 1}}, 2) {
		var l []api.Pred
		var steps []api.Point
		for i, args := range types {
			l = append(l, pred([]string{"p", "name"}[i], args...))
			for _, value := range []string{"a", "b"} {
				e := ev(i)
				for _, typ := range args {
					e.Args = append(e.Args, map[int]api.Arg{1: num(int64(value[0]) - 98), 2: text(value)}[typ])
				}
				steps = append(steps, at(uint64(100*i), e))
			}
		}
		for _, row := range lists(append(steps, at(0)), 4) {
			points := later(row)
			for most := 1; most <= 3; most++ {
				checkWrite(t, l, points, most, cutFrames(t, l, points, most)...)
				count++
			}
		}
		if t.Failed() {
			t.FailNow()
		}
	}
	if count < 10000 {
		t.Errorf("there are only %d", count)
	}
}

// All traces of up to four points of few, small and great ones.
func TestAllSmallAndGreat(t *testing.T) {
	t.Parallel()
	l := names(20)
	steps := []api.Point{at(0), listing(0, l[:10]...), listing(1<<60, l[5:15]...), at(128, ev(2, text("a"))), plain(1, 1360), plain(0, 4085)}
	for _, row := range lists(steps, 4) {
		points := later(row)
		for _, most := range []int{2, math.MaxInt} {
			checkWrite(t, few(), points, most, cutFrames(t, few(), points, most)...)
		}
		if t.Failed() {
			t.FailNow()
		}
	}
}

// Texts that are frames themselves: no part but the frames that were written is found.
func TestFramesWithinTexts(t *testing.T) {
	within := whole(2, "\x05\x01\x00\x01\x00\x06")
	points := []api.Point{listing(1, within, within+within), listing(2, "\xc7TG\x01"), listing(2, within)}
	for most := 1; most <= 3; most++ {
		checkWrite(t, few(), points, most, cutFrames(t, few(), points, most)...)
	}
}

// A most below 1 is told first, whatever the signature and the trace are.
func TestMostBelowOne(t *testing.T) {
	traces := [][]api.Point{nil, {}, {at(0)}, make([]api.Point, 2100), {at(2), at(1)}, {tooGreat(0)}, {at(0, make([]api.Event, 1025)...)}}
	for _, x := range wrongEvents() {
		traces = append(traces, []api.Point{at(0, x.e)}, []api.Point{at(0), at(1), at(1, ev(0), x.e)})
	}
	for _, most := range noMosts() {
		for _, points := range traces {
			checkWrong(t, nil, points, most, api.ErrArg)
			checkWrong(t, few(), points, most, api.ErrArg)
			for _, x := range wrongSignatures() {
				checkWrong(t, x.l, points, most, api.ErrArg)
			}
		}
	}
}

// A signature that may not be is told ahead of all that is wrong with the trace, and where there are no points.
func TestWrongSignatures(t *testing.T) {
	for _, x := range wrongSignatures() {
		for _, points := range [][]api.Point{
			nil, {}, {at(0)}, {at(1, ev(1, num(1))), at(2)}, {at(2), at(1)}, {at(0, ev(-1))}, {at(0, ev(1, text("a")))},
			{at(0, make([]api.Event, 1025)...)}, {tooGreat(0)}, {at(1), tooGreat(2), at(1)},
		} {
			for _, most := range mosts() {
				checkWrong(t, x.l, points, most, x.want)
			}
		}
	}
}

// surroundings are points of few, all at 5, that stand ahead of another one, or behind it.
func surroundings() [][]api.Point {
	return [][]api.Point{
		nil, {at(5)}, {at(5), at(5, ev(2, text("a")))}, slices.Repeat([]api.Point{at(5)}, 1030),
		{plain(5, 4000), plain(5, 4000), at(5)}, {tooGreat(5)}, {at(5), tooGreat(5), at(5)},
	}
}

// Each error of an event, at the first and at later points; ahead of points that are too great, wherever these are.
func TestWrongEvents(t *testing.T) {
	for _, x := range wrongEvents() {
		for _, p := range []api.Point{at(5, x.e), at(5, ev(0), x.e, ev(77)), at(5, append(plain(5, 4090).Events, x.e)...)} {
			for _, ahead := range surroundings() {
				for _, behind := range surroundings() {
					for _, most := range []int{1, math.MaxInt} {
						checkWrong(t, few(), slices.Concat(ahead, []api.Point{p}, behind), most, x.want)
					}
				}
			}
		}
	}
}

// A time below the one ahead, also where a block would end between the two; and which of two errors is told.
func TestWrongTraces(t *testing.T) {
	for _, ahead := range []int{0, 1, 2, 3, 1022, 1023, 1024} {
		for _, two := range [][]uint64{{1, 0}, {128, 127}, {math.MaxUint64, 0}, {1 << 63, 1<<63 - 1}} {
			points := append(make([]api.Point, ahead), at(two[0]), at(two[1]))
			for _, most := range []int{1, 2, 3, 4, 1024, math.MaxInt} {
				checkWrong(t, few(), points, most, api.ErrOrder)
				checkWrong(t, few(), append(points, at(two[0], ev(-1))), most, api.ErrOrder)
			}
		}
	}
	many := make([]api.Event, 1025)
	for _, most := range []int{1, 2, 1024} {
		checkWrong(t, few(), []api.Point{plain(9, 4000), plain(8, 4000)}, most, api.ErrOrder)
		checkWrong(t, few(), []api.Point{at(9), tooGreat(8)}, most, api.ErrOrder)
		checkWrong(t, few(), []api.Point{tooGreat(9), at(8)}, most, api.ErrOrder)
		checkWrong(t, few(), []api.Point{at(1), at(0, many...)}, most, api.ErrOrder)
		checkWrong(t, few(), []api.Point{at(1, ev(-1)), at(0)}, most, api.ErrName)
		checkWrong(t, few(), []api.Point{at(1, ev(1, text(""))), at(1, ev(0, num(1)))}, most, api.ErrType)
		for _, ahead := range surroundings() {
			checkWrong(t, few(), append(slices.Clone(ahead), at(5, many...)), most, api.ErrLimit)
			checkWrong(t, few(), append(slices.Clone(ahead), at(5, many...), at(6, ev(-1))), most, api.ErrLimit)
			checkWrong(t, few(), append(slices.Clone(ahead), at(5, ev(-1)), at(5, many...)), most, api.ErrName)
		}
	}
}

// A point alone of 4096 bytes, and of 4097: at the first, at a middle and at the last place.
func TestTooGreat(t *testing.T) {
	t.Parallel()
	for _, time := range []uint64{5, 127, 128, 1 << 40, math.MaxUint64} {
		for size := 4095; size <= 4098; size++ {
			p := plain(time, size-len(number(time))-2)
			if got, e := block.Size(few(), []api.Point{p}); got != size || e != api.OK {
				t.Fatalf("the point has %d bytes, %d, want %d", got, e, size)
			}
			for _, ahead := range [][]api.Point{nil, {at(0)}, make([]api.Point, 130), {plain(0, 4000)}} {
				for _, behind := range [][]api.Point{nil, {at(math.MaxUint64)}, {plain(time, 4000), at(time)}} {
					points := slices.Concat(ahead, []api.Point{p}, behind)
					for _, most := range []int{1, 2, 1024} {
						if size > 4096 {
							checkWrong(t, few(), points, most, api.ErrLimit)
							continue
						}
						checkWrite(t, few(), points, most, cutFrames(t, few(), points, most)...)
					}
				}
			}
		}
	}
	great, ahead := lateText(4097)
	for _, most := range []int{1, 2, 3, 1024} {
		checkWrong(t, few(), []api.Point{great}, most, api.ErrLimit)
		checkWrong(t, few(), []api.Point{ahead, great}, most, api.ErrLimit)
		checkWrong(t, few(), []api.Point{ahead, ahead, great, ahead}, most, api.ErrLimit)
	}
}

// What is handed in stays as it was, and what is behind the ends of its lists isn't gone to.
func TestLeavesWhatIsHandedIn(t *testing.T) {
	l, points := crowded()
	was := room(l, points)
	for range 3 {
		checkWrite(t, l, points, 2, crowdedFrames()...)
		checkWrite(t, l, points, 1, sizedFrames(t, l, points, 1, 1, 1)...)
		checkWrite(t, l, points[:0], 2, crowdedFrames()[0])
		checkWrong(t, l, points[:4], 2, api.ErrOrder)
		checkWrong(t, l[:4], points, 2, api.ErrName)
		checkWrong(t, l, points, 0, api.ErrArg)
	}
	if now := room(l, points); now != was {
		t.Errorf("what was handed in is %s, was %s", now, was)
	}
}

// Whoever writes into what was handed in, or into what was answered, changes nothing that was answered, nor anything that is later.
func TestAnswersNewMemory(t *testing.T) {
	frames := crowdedFrames()
	want := strings.Join(frames, "")
	for range 3 {
		l, points := crowded()
		b, _ := write.Bytes(l, points, 2)
		parts, _ := write.Frames(l, points, 2)
		again, _ := write.Bytes(l, points, 2)
		more, _ := write.Frames(l, points, 2)
		spoilBytes(again)
		for i := range more {
			spoilBytes(more[i].Frame.Payload)
			// The other parts of the same answer have memory of their own.
			if rest := partsOf(frames)[i+1:]; !slices.EqualFunc(more[i+1:], rest, samePart) {
				t.Errorf("with part %d written into, those behind are %v", i, more[i+1:])
			}
			more[i] = api.Seg{From: -1}
		}
		checkWrite(t, l, points, 2, frames...)
		spoil(points)
		spoilPreds(l)
		if string(b) != want {
			t.Errorf("bytes that were answered became %x", b)
		}
		if !slices.EqualFunc(parts, partsOf(frames), samePart) {
			t.Errorf("parts that were answered became %v", parts)
		}
	}
}

// A nil list is the same as an empty one.
func TestNilAndEmpty(t *testing.T) {
	for _, l := range [][]api.Pred{{pred("q")}, {{Name: "q", Args: []int{}}}} {
		for _, events := range [][]api.Event{{{}}, {{Args: []api.Arg{}}}} {
			points := []api.Point{{Events: events}, {}, {Events: []api.Event{}}}
			checkWrite(t, l, points, 2, whole(1, "\x01\x01q\x00"), whole(2, "\x00\x02\x00\x01\x00\x00\x00"), whole(2, "\x00\x01\x00\x00"))
		}
	}
}
