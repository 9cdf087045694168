package cut

import (
	"encoding/binary"
	"fmt"
	"math"
	"slices"
	"strings"
	"testing"

	"tachograph/api"
	"tachograph/block"
	"tachograph/trace"
)

// pred is a predicate of a name and arguments' types.
func pred(name string, args ...int) api.Pred {
	return api.Pred{Name: name, Args: args}
}

// num and text are arguments of the two types.
func num(n int64) api.Arg { return api.Arg{Type: 1, N: n} }

func text(s string) api.Arg { return api.Arg{Type: 2, S: s} }

// ev is an event of a predicate's number and arguments.
func ev(p int, args ...api.Arg) api.Event {
	return api.Event{Pred: p, Args: args}
}

// at is a point of a time and events.
func at(time uint64, events ...api.Event) api.Point {
	return api.Point{At: time, Events: events}
}

// long is a text of some size.
func long(size int) string { return strings.Repeat("x", size) }

// few is a signature of predicates with none, one and more arguments.
func few() []api.Pred {
	return []api.Pred{pred("q"), pred("p", 1), pred("s", 2), pred("b", 2, 1, 2), pred("i", 1, 1, 1, 1, 1, 1, 1, 1), pred("t", 2, 2, 2, 2, 2, 2, 2, 2)}
}

// number are a number's bytes, by the library.
func number[N int | uint64](n N) string { return string(binary.AppendUvarint(nil, uint64(n))) }

// plain is a point of few without texts, whose events, with how many they are, have just so many bytes: 1 to 4096.
func plain(time uint64, size int) api.Point {
	least := num(math.MinInt64)
	eight := slices.Repeat([]api.Event{ev(4, least, least, least, least, least, least, least, least)}, (size-1)/81)
	one := slices.Repeat([]api.Event{ev(1, least)}, (size-1)%81/11)
	none := slices.Repeat([]api.Event{ev(0)}, (size-1)%81%11)
	return at(time, slices.Concat(eight, one, none)...)
}

// room is how many bytes plain points may have of a payload, if they are so many and all at 0.
func room(count int) int {
	return 4096 - len("\x00") - len(number(count)) - len("\x00") - (count - 1)
}

// told are points, so that no two that aren't the same are told alike.
func told(t []api.Point) string {
	var b strings.Builder
	for _, p := range t {
		fmt.Fprintf(&b, "@%d", p.At)
		for _, e := range p.Events {
			fmt.Fprintf(&b, " %d(", e.Pred)
			for _, a := range e.Args {
				fmt.Fprintf(&b, "[%d %d %+q]", a.Type, a.N, a.S)
			}
			b.WriteString(")")
		}
		b.WriteString(";")
	}
	return b.String()
}

// toldBlocks are blocks, likewise.
func toldBlocks(blocks [][]api.Point) string {
	var b strings.Builder
	for _, points := range blocks {
		b.WriteString("{" + told(points) + "}")
	}
	return b.String()
}

// brief is the front of what is told, so that a failure can be read.
func brief(points []api.Point) string {
	s := told(points[:min(len(points), 20)])
	return fmt.Sprintf("%d points, %s", len(points), s[:min(len(s), 300)])
}

// putOK tells whether points can be in one block, by layer 14 alone.
func putOK(l []api.Pred, points []api.Point) bool {
	_, e := block.Put(l, points)
	return e == api.OK
}

// modelError is the chapter's error of Blocks.
func modelError(l []api.Pred, points []api.Point, most int) api.Errno {
	if most < 1 {
		return api.ErrArg
	}
	if e, _ := trace.Check(l, points); e != api.OK {
		return e
	}
	for _, p := range points {
		if size, _ := block.Size(l, []api.Point{p}); size > 4096 {
			return api.ErrLimit
		}
	}
	return api.OK
}

// modelSizes are the sizes of a trace's blocks, point by point by layer 14's Put.
func modelSizes(l []api.Pred, points []api.Point, most int) []int {
	var sizes []int
	for from := 0; from < len(points); {
		to := from + 1
		for to < len(points) && to-from < most && putOK(l, points[from:to+1]) {
			to++
		}
		sizes = append(sizes, to-from)
		from = to
	}
	return sizes
}

// checkAll holds that blocks are a trace's, and no less than they can be, by layer 14's Put and Fits.
func checkAll(t *testing.T, l []api.Pred, points []api.Point, most int, blocks [][]api.Point) {
	t.Helper()
	for i, b := range blocks {
		if len(b) < 1 || len(b) > most || len(b) > 1024 {
			t.Errorf("of %s, most %d: block %d has %d points", brief(points), most, i, len(b))
			return
		}
		if !putOK(l, b) {
			t.Errorf("of %s, most %d: block %d has no payload", brief(points), most, i)
		}
		if i == len(blocks)-1 {
			continue
		}
		if len(blocks[i+1]) < 1 {
			t.Errorf("of %s, most %d: block %d has no points", brief(points), most, i+1)
			return
		}
		if more := append(slices.Clone(b), blocks[i+1][0]); len(more) <= min(most, 1024) && putOK(l, more) {
			t.Errorf("of %s, most %d: block %d, of %d points, has room for one more", brief(points), most, i, len(b))
		}
	}
	if !trace.Same(slices.Concat(blocks...), points) {
		t.Errorf("of %s, most %d: the blocks aren't the trace", brief(points), most)
	}
}

// checkCut holds Blocks and Sizes of a trace that has blocks.
func checkCut(t *testing.T, l []api.Pred, points []api.Point, most int, want ...int) {
	t.Helper()
	sizes, e := Sizes(l, points, most)
	if !slices.Equal(sizes, want) || e != api.OK {
		t.Errorf("Sizes of %s, most %d: %v, %d, want %v", brief(points), most, sizes, e, want)
	}
	blocks, e := Blocks(l, points, most)
	var counts []int
	for _, b := range blocks {
		counts = append(counts, len(b))
	}
	if !slices.Equal(counts, want) || e != api.OK {
		t.Errorf("Blocks of %s, most %d: of sizes %v, %d, want %v", brief(points), most, counts, e, want)
	}
	checkAll(t, l, points, most, blocks)
}

// checkWrong holds Blocks and Sizes of what has none.
func checkWrong(t *testing.T, l []api.Pred, points []api.Point, most int, want api.Errno) {
	t.Helper()
	if sizes, e := Sizes(l, points, most); len(sizes) != 0 || e != want {
		t.Errorf("Sizes of %s, most %d: %v, %d, want none, %d", brief(points), most, sizes, e, want)
	}
	if blocks, e := Blocks(l, points, most); len(blocks) != 0 || e != want {
		t.Errorf("Blocks of %s, most %d: %d of them, %d, want none, %d", brief(points), most, len(blocks), e, want)
	}
}

// checkModel holds Blocks and Sizes of anything against the model, and tells how many blocks there are.
func checkModel(t *testing.T, l []api.Pred, points []api.Point, most int) int {
	t.Helper()
	if e := modelError(l, points, most); e != api.OK {
		checkWrong(t, l, points, most, e)
		return 0
	}
	want := modelSizes(l, points, most)
	checkCut(t, l, points, most, want...)
	return len(want)
}

// checkFits holds Fits of a point.
func checkFits(t *testing.T, l []api.Pred, p api.Point, want bool) {
	t.Helper()
	if got := Fits(l, p); got != want {
		t.Errorf("Fits(%s) = %v", brief([]api.Point{p}), got)
	}
	if put := putOK(l, []api.Point{p}); put != want {
		t.Errorf("layer 14's Put of %s is OK: %v", brief([]api.Point{p}), put)
	}
}

// mosts are numbers that a block's points may be held to, small and great ones.
func mosts() []int {
	return []int{1, 2, 3, 4, 5, 7, 100, 1023, 1024, 1025, 2048, 1 << 31, 1 << 32, math.MaxInt - 1, math.MaxInt}
}

func TestExample(t *testing.T) {
	points := []api.Point{at(1), at(2), at(3)}
	checkCut(t, nil, points, 2, 2, 1)
	blocks, _ := Blocks(nil, points, 2)
	if got := toldBlocks(blocks); got != "{@1;@2;}{@3;}" {
		t.Errorf("the example's blocks are %s", got)
	}
}

// Blocks that were written by hand.
func TestKnownBlocks(t *testing.T) {
	a, b, c := at(1, ev(2, text("a"))), at(1, ev(1, num(-1)), ev(0)), at(300, ev(3, text("b"), num(7), text("a")))
	for _, x := range []struct {
		points []api.Point
		most   int
		want   string
	}{
		{nil, 1, ""},
		{[]api.Point{a}, 1, `{@1 2([2 0 "a"]);}`},
		{[]api.Point{a, b, c}, 1, `{@1 2([2 0 "a"]);}{@1 1([1 -1 ""]) 0();}{@300 3([2 0 "b"][1 7 ""][2 0 "a"]);}`},
		{[]api.Point{a, b, c}, 2, `{@1 2([2 0 "a"]);@1 1([1 -1 ""]) 0();}{@300 3([2 0 "b"][1 7 ""][2 0 "a"]);}`},
		{[]api.Point{a, b, c}, 3, `{@1 2([2 0 "a"]);@1 1([1 -1 ""]) 0();@300 3([2 0 "b"][1 7 ""][2 0 "a"]);}`},
		{[]api.Point{at(0), at(5), at(5), at(9), at(math.MaxUint64)}, 2, `{@0;@5;}{@5;@9;}{@18446744073709551615;}`},
	} {
		blocks, e := Blocks(few(), x.points, x.most)
		if got := toldBlocks(blocks); got != x.want || e != api.OK {
			t.Errorf("Blocks(%s, %d) = %s, %d, want %s", told(x.points), x.most, got, e, x.want)
		}
	}
}

// No points have no blocks.
func TestNoPoints(t *testing.T) {
	for _, points := range [][]api.Point{nil, {}, make([]api.Point, 3)[:0], []api.Point{at(3), at(2)}[:0]} {
		for _, l := range [][]api.Pred{nil, {}, few()} {
			for _, most := range mosts() {
				checkCut(t, l, points, most)
			}
		}
	}
}

// parted are the sizes of blocks of so many points, if none but the most there may be ends one.
func parted(count, most int) []int {
	var sizes []int
	for ; count > most; count -= most {
		sizes = append(sizes, most)
	}
	if count > 0 {
		sizes = append(sizes, count)
	}
	return sizes
}

// Of as many points as most, of one more and less, and of several times as many.
func TestHowManyPoints(t *testing.T) {
	for _, most := range append(mosts(), 63, 64, 126, 127, 128, 129, 512, 513, 1000) {
		limit := min(most, 1024)
		for _, count := range []int{1, 2, 3, limit - 1, limit, limit + 1, 2*limit - 1, 2 * limit, 2*limit + 1, 3*limit - 1, 3 * limit, 7*limit + 2, 1000, 2100} {
			if count < 1 || count > 2100 {
				continue
			}
			checkCut(t, nil, make([]api.Point, count), most, parted(count, limit)...)
			checkCut(t, few(), slices.Repeat([]api.Point{at(300, ev(0))}, count), most, parted(count, limit)...)
		}
	}
}

// Each number of points with each small most.
func TestAllSmallCounts(t *testing.T) {
	for count := range 41 {
		var points []api.Point
		for i := range count {
			points = append(points, at(uint64(i/3), ev(1, num(int64(i)))))
		}
		for most := 1; most <= 42; most++ {
			checkCut(t, few(), points, most, parted(count, most)...)
		}
	}
}

// A most above 1024 counts as that.
func TestMostAboveMaxBlock(t *testing.T) {
	for _, most := range []int{1024, 1025, 1026, 2047, 2048, 2100, 4096, 1 << 20, 1 << 31, 1<<32 + 1, 1 << 62, math.MaxInt - 1, math.MaxInt} {
		for _, count := range []int{1023, 1024, 1025, 1026, 2047, 2048, 2049, 2100} {
			checkCut(t, few(), make([]api.Point, count), most, parted(count, 1024)...)
		}
	}
	for _, most := range []int{1, 2, 3, 1022, 1023} {
		checkCut(t, few(), make([]api.Point, 2100), most, parted(2100, most)...)
	}
}

// At each number of points a payload of just 4096 bytes has room for the next point, and one of 4097 has not.
func TestEndsByBytes(t *testing.T) {
	for count := 2; count <= 1024; count++ {
		// The first one has what the others, a byte each, leave.
		size := room(count) - (count - 1)
		points := append([]api.Point{plain(0, size)}, make([]api.Point, count-1)...)
		if b, e := block.Put(few(), points); len(b) != 4096 || e != api.OK {
			t.Fatalf("%d points have %d bytes, %d", count, len(b), e)
		}
		checkCut(t, few(), points, math.MaxInt, count)
		points[0] = plain(0, size+1)
		checkCut(t, few(), points, math.MaxInt, count-1, 1)
	}
}

// The same, wherever the great one stands, and with more points behind.
func TestEndsByBytesAnywhere(t *testing.T) {
	for _, count := range []int{2, 3, 4, 5, 6, 7, 8, 9, 15, 16, 17, 63, 64, 65, 126, 127, 128, 129, 130, 255, 256, 257, 511, 512, 513, 700, 1023, 1024} {
		size := room(count) - (count - 1)
		for _, place := range []int{0, 1, count / 2, count - 2, count - 1} {
			points := make([]api.Point, count)
			points[place] = plain(0, size)
			checkCut(t, few(), points, 1024, count)
			checkCut(t, few(), points, count, count)
			points = append(points, plain(0, 4000))
			checkCut(t, few(), points, 1024, count, 1)
			checkCut(t, few(), points, count, count, 1)
			points[place] = plain(0, size+1)
			if place < count-1 {
				checkCut(t, few(), points[:count], count, count-1, 1)
				checkModel(t, few(), points, count)
				continue
			}
			// The great one itself has no room; behind it there is none for the next.
			checkCut(t, few(), points, count, count-1, 1, 1)
		}
	}
}

// Points of one size fill as many blocks as need be.
func TestPointsOfOneSize(t *testing.T) {
	for _, size := range []int{2, 3, 4, 5, 8, 10, 31, 32, 33, 50, 99, 100, 300, 1000, 2045, 2046, 2047, 2048, 4000, 4093} {
		each := 1
		for each < 1024 && (each+1)*size <= room(each+1) {
			each++
		}
		for _, count := range []int{1, each, each + 1, 3*each - 1, 3 * each, 3*each + 1} {
			if count > 3200 {
				continue
			}
			points := slices.Repeat([]api.Point{plain(0, size)}, count)
			checkCut(t, few(), points, 1024, parted(count, each)...)
			checkCut(t, few(), points, each, parted(count, each)...)
			if each > 1 {
				checkCut(t, few(), points, each-1, parted(count, each-1)...)
			}
		}
	}
}

// A point that has no room in a block is followed by small ones that would have had.
func TestUnlikeSizes(t *testing.T) {
	great, half, small := plain(0, 4000), plain(0, 2040), plain(0, 1)
	for _, x := range []struct {
		points []api.Point
		most   int
		want   []int
	}{
		{[]api.Point{great, great, small}, 9, []int{1, 2}},
		{[]api.Point{great, small, great, small, small}, 9, []int{2, 3}},
		{[]api.Point{great, small, great, small, small}, 2, []int{2, 2, 1}},
		{[]api.Point{great, small, great, small, small}, 1, []int{1, 1, 1, 1, 1}},
		{[]api.Point{small, great, great, small}, 9, []int{2, 2}},
		{[]api.Point{small, small, half, half, small, half, half, small}, 9, []int{5, 3}},
		{[]api.Point{half, half, half, half, half}, 9, []int{2, 2, 1}},
		{[]api.Point{half, great, half, small, great, half}, 9, []int{1, 1, 2, 1, 1}},
		{[]api.Point{half, great, small, half, half, small, small}, 9, []int{1, 2, 4}},
		{[]api.Point{half, half, great}, 9, []int{2, 1}},
		{[]api.Point{plain(0, 4093), plain(0, 4093), small, plain(0, 4093)}, 9, []int{1, 1, 1, 1}},
		{[]api.Point{plain(0, 4091), small, small, plain(0, 4091), small}, 9, []int{2, 2, 1}},
	} {
		checkCut(t, few(), x.points, x.most, x.want...)
	}
	for _, count := range []int{1, 5, 20, 40, 50} {
		points := append([]api.Point{great}, make([]api.Point, count)...)
		points = slices.Concat(points, []api.Point{great}, make([]api.Point, 60))
		checkModel(t, few(), points, 1024)
		checkModel(t, few(), points, count+1)
	}
}

// names are texts of 200 bytes, no two of which are the same.
func names(count int) []string {
	var l []string
	for i := range count {
		l = append(l, fmt.Sprintf("%03d", i)+long(197))
	}
	return l
}

// listing is a point that has texts in order, one an event.
func listing(time uint64, texts ...string) api.Point {
	p := at(time)
	for _, s := range texts {
		p.Events = append(p.Events, ev(2, text(s)))
	}
	return p
}

// Texts that come again in a later point of the same block are in its payload once, and in the next block anew.
func TestTextsAgain(t *testing.T) {
	l := names(40)
	// Alone 3 bytes, 20 texts of 202, and 1 and 20 times 2 of the events: 4084.
	first := listing(0, l[:20]...)
	again := listing(0, l[7])    // 4 bytes behind the first one
	fresh := listing(0, l[30])   // 206 bytes behind the first one
	empty := listing(0, "")      // 5 bytes, once
	twice := listing(0, "", "x") // 2 bytes more
	if size, _ := block.Size(few(), []api.Point{first}); size != 4084 {
		t.Fatalf("the first one has %d bytes", size)
	}
	for _, x := range []struct {
		points []api.Point
		want   []int
	}{
		{[]api.Point{first, again, again, again}, []int{4}},
		{[]api.Point{first, again, again, again, again}, []int{4, 1}},
		{[]api.Point{again, first, again, again}, []int{4}},
		{[]api.Point{again, again, again, first}, []int{4}},
		{[]api.Point{again, again, again, again, first}, []int{4, 1}},
		{[]api.Point{first, fresh, again}, []int{1, 2}},
		{[]api.Point{first, empty, empty, empty}, []int{3, 1}},
		{[]api.Point{first, empty, again, empty}, []int{3, 1}},
		{[]api.Point{first, twice, again}, []int{2, 1}},
		{[]api.Point{first, first}, []int{1, 1}},
		{[]api.Point{first, first, again, again, again, again}, []int{1, 4, 1}},
		{[]api.Point{first, again, again, again, first, again, again, again, first, again, again, again, again, first}, []int{4, 4, 4, 2}},
		{[]api.Point{first, again, again, again, again, first, again, again, again}, []int{4, 4, 1}},
	} {
		checkCut(t, few(), x.points, 1024, x.want...)
	}
	many := slices.Repeat([]api.Point{listing(0, l[:10]...)}, 100) // 22 bytes behind the first one, which has 2044
	checkCut(t, few(), many, 1024, 94, 6)
	checkCut(t, few(), many, 50, 50, 50)
	other := slices.Concat(many[:50], slices.Repeat([]api.Point{listing(0, l[10:20]...)}, 50)) // 2042 bytes more, the first time
	checkCut(t, few(), other, 1024, 50, 50)
}

// Texts whose numbers get longer, and a dictionary with more of them.
func TestManyTexts(t *testing.T) {
	var own, some []api.Point
	for i := range 2000 {
		own = append(own, listing(uint64(i), fmt.Sprint(i)))
		some = append(some, at(uint64(i/5), ev(3, text(fmt.Sprint(i*7%150)), num(int64(i)), text(fmt.Sprint(i%130)))))
	}
	for _, most := range []int{1, 100, 127, 128, 129, 1024} {
		checkModel(t, few(), own, most)
		checkModel(t, few(), some, most)
	}
}

// spaced are so many points of one event, from a time on, each as much above the one ahead.
func spaced(count int, from, more uint64) []api.Point {
	var points []api.Point
	for i := range count {
		points = append(points, at(from+uint64(i)*more, ev(0)))
	}
	return points
}

// Times that are the same have a byte each, and those far apart more; the first of each block is whole.
func TestTimes(t *testing.T) {
	for _, x := range []struct {
		points []api.Point
		want   []int
	}{
		{spaced(1400, 0, 0), []int{1024, 376}},
		// 4 bytes and 2 of the first point, and 5 of each of 818 others are 4096; the next block's first time has 4 bytes, not one.
		{spaced(1700, 0, 1<<14), []int{819, 818, 63}},
		// 10 bytes of each but the first one, whose time has one byte, and 9 in the later blocks.
		{spaced(1000, 0, 1<<50), []int{410, 409, 181}},
		{spaced(1000, 1<<63, 1<<50), []int{409, 409, 182}},
		{spaced(2000, math.MaxUint64, 0), []int{1024, 976}},
	} {
		checkCut(t, few(), x.points, 1024, x.want...)
		checkModel(t, few(), x.points, 300)
	}
	for _, more := range []uint64{0, 127, 128, 1<<21 - 1, 1 << 21, 1 << 40, 1<<53 - 1} {
		for _, from := range []uint64{0, 127, 128, 1<<63 - 1, 1 << 63} {
			checkModel(t, few(), spaced(900, from, more), 1024)
		}
	}
}

// A later time is told from the one ahead, not from the first one; a byte decides.
func TestTimesByTheByte(t *testing.T) {
	for _, first := range []uint64{0, 127, 128, 1 << 40, 1 << 63} {
		for _, more := range []uint64{0, 1, 127, 128, 16383, 16384, 1 << 62} {
			last := first + more
			fixed := len(number(first)) + 1 + 1 + 1 + 1 + 1 + 1 + len(number(more)) + 1
			points := []api.Point{at(first), at(first), plain(first, 4096-fixed), at(last)}
			checkCut(t, few(), points, 1024, 4)
			points[2] = plain(first, 4096-fixed+1)
			checkCut(t, few(), points, 1024, 3, 1)
			points = []api.Point{at(0), at(first), plain(last, 4096-fixed), at(last)}
			checkCut(t, few(), points, 1024, 4)
			points[2] = plain(last, 4096-fixed+1)
			checkCut(t, few(), points, 1024, 3, 1)
		}
	}
}

// The first time of a later block is whole: with it there is less room than with how much it is above the one ahead.
func TestLaterBlocksFirstTime(t *testing.T) {
	for _, time := range []uint64{0, 127, 128, 1 << 30, 1 << 63, math.MaxUint64} {
		whole := len(number(time))
		full := plain(time, 4096-whole-2)
		checkCut(t, few(), []api.Point{full, full, full}, 1024, 1, 1, 1)
		two := plain(time, 4096-whole-2-2)
		checkCut(t, few(), []api.Point{full, two, at(time), full}, 1024, 1, 2, 1)
		more := plain(time, 4096-whole-2-1)
		checkCut(t, few(), []api.Point{full, more, at(time), full}, 1024, 1, 1, 1, 1)
	}
}

// lists are all lists of up to so many of some.
func lists[T any](of []T, most int) [][]T {
	all := [][]T{nil}
	for i := 0; i < len(all); i++ {
		if len(all[i]) < most {
			for _, x := range of {
				all = append(all, append(slices.Clone(all[i]), x))
			}
		}
	}
	return all
}

// later are points whose times go on by what was theirs.
func later(steps []api.Point) []api.Point {
	points := slices.Clone(steps)
	for i := 1; i < len(points); i++ {
		points[i].At += points[i-1].At
	}
	return points
}

// All traces of up to four points, and of up to six of fewer sorts, small and great ones, against the model.
func TestAllSmallTraces(t *testing.T) {
	l := names(20)
	steps := []api.Point{
		at(0), listing(0, l[:10]...), listing(1<<60, l[5:15]...), at(128, ev(2, text("a"))),
		plain(1, 1360), plain(0, 2043), plain(0, 4086),
	}
	blocks := map[int]int{}
	for _, row := range append(lists(steps, 4), lists(steps[:3], 6)...) {
		points := later(row)
		for most := 1; most <= 3; most++ {
			blocks[checkModel(t, few(), points, most)]++
		}
		blocks[checkModel(t, few(), points, math.MaxInt)]++
		if t.Failed() {
			t.FailNow()
		}
	}
	for count := 1; count <= 6; count++ {
		if blocks[count] < 100 {
			t.Errorf("only %d traces have %d blocks", blocks[count], count)
		}
	}
}

// All traces of up to four points, right and wrong ones, with each sort of most and signatures.
func TestAllRightAndWrong(t *testing.T) {
	signatures := [][]api.Pred{few(), few()[:2], nil, {pred("p", 1), pred("p", 1)}, {pred("9")}, {pred("p", 3)}, {pred("q"), pred("p", 2)}}
	steps := []api.Point{at(3), at(2), at(3, ev(1, num(1))), plain(3, 4000), plain(3, 4094), at(3, ev(7)), at(3, ev(0, num(1))), at(2, make([]api.Event, 1025)...)}
	right := 0
	for _, l := range signatures {
		for _, points := range lists(steps, 4) {
			for _, most := range []int{0, 1, 2, 1024} {
				if checkModel(t, l, points, most) > 0 {
					right++
				}
			}
		}
		if t.Failed() {
			t.FailNow()
		}
	}
	if right < 500 {
		t.Errorf("only %d of them are right", right)
	}
}

// wrongSignatures may not be, and why.
func wrongSignatures() []struct {
	l    []api.Pred
	want api.Errno
} {
	return []struct {
		l    []api.Pred
		want api.Errno
	}{
		{make([]api.Pred, 65), api.ErrLimit},
		{[]api.Pred{{}}, api.ErrName},
		{[]api.Pred{pred("9", 1)}, api.ErrName},
		{[]api.Pred{pred(long(33), 1)}, api.ErrName},
		{append(few(), pred("p", 1)), api.ErrName},
		{append(few(), pred("wide", 1, 1, 1, 1, 1, 1, 1, 1, 1)), api.ErrLimit},
		{append(few(), pred("strange", 3)), api.ErrType},
		{append(few(), pred("strange", 1, -1)), api.ErrType},
	}
}

// wrongEvents are events that aren't few's, and why.
func wrongEvents() []struct {
	e    api.Event
	want api.Errno
} {
	return []struct {
		e    api.Event
		want api.Errno
	}{
		{ev(-1), api.ErrName}, {ev(6), api.ErrName}, {ev(math.MinInt), api.ErrName}, {ev(math.MaxInt), api.ErrName},
		{ev(0, num(1)), api.ErrArg}, {ev(1), api.ErrArg}, {ev(1, num(1), num(1)), api.ErrArg}, {ev(4, slices.Repeat([]api.Arg{num(1)}, 9)...), api.ErrArg},
		{ev(1, text("")), api.ErrType}, {ev(2, num(0)), api.ErrType}, {ev(1, api.Arg{}), api.ErrType}, {ev(2, api.Arg{Type: 3}), api.ErrType}, {ev(3, text("a"), num(1), num(1)), api.ErrType},
		{ev(1, api.Arg{Type: 1, N: 1, S: "a"}), api.ErrArg}, {ev(2, api.Arg{Type: 2, N: -1, S: "a"}), api.ErrArg}, {ev(1, api.Arg{Type: 1, S: long(201)}), api.ErrArg},
		{ev(2, text(long(201))), api.ErrLimit}, {ev(3, text("a"), num(1), text(long(300))), api.ErrLimit},
	}
}

// tooGreat is a point of few that has just a byte more than there may be.
func tooGreat(time uint64) api.Point {
	return plain(time, 4096-len(number(time))-2+1)
}

// A most below 1 is told first, whatever the signature and the trace are.
func TestMostBelowOne(t *testing.T) {
	traces := [][]api.Point{nil, {}, {at(0)}, make([]api.Point, 2100), {at(2), at(1)}, {tooGreat(0)}, {at(0, make([]api.Event, 1025)...)}}
	for _, x := range wrongEvents() {
		traces = append(traces, []api.Point{at(0, x.e)}, []api.Point{at(0), at(1), at(1, ev(0), x.e)})
	}
	for _, most := range []int{0, -1, -2, -1023, -1024, -1 << 31, -1 << 32, math.MinInt + 1, math.MinInt} {
		for _, points := range traces {
			checkWrong(t, nil, points, most, api.ErrArg)
			checkWrong(t, few(), points, most, api.ErrArg)
			for _, x := range wrongSignatures() {
				checkWrong(t, x.l, points, most, api.ErrArg)
			}
		}
	}
}

// A signature that may not be is told ahead of all that is wrong with the trace, and where there are no points.
func TestWrongSignatures(t *testing.T) {
	for _, x := range wrongSignatures() {
		for _, points := range [][]api.Point{
			nil, {}, {at(0)}, make([]api.Point, 2100), {at(1, ev(1, num(1))), at(2)},
			{at(2), at(1)}, {at(0, ev(-1))}, {at(0, ev(1, text("a")))}, {at(0, ev(2, text(long(201))))},
			{at(0, make([]api.Event, 1025)...)}, {tooGreat(0)}, {at(1), tooGreat(2), at(1)},
		} {
			for _, most := range []int{1, 2, 1024, math.MaxInt} {
				checkWrong(t, x.l, points, most, x.want)
			}
		}
		checkFits(t, x.l, at(0), false)
		checkFits(t, x.l, at(0, ev(1, num(1))), false)
		checkFits(t, x.l, tooGreat(0), false)
	}
}

// surroundings are points of few, from the time 5 on, that stand ahead of another one.
func surroundings() [][]api.Point {
	return [][]api.Point{
		nil, {at(5)}, {at(5), at(5, ev(2, text("a")))}, slices.Repeat([]api.Point{at(5)}, 1030),
		{plain(5, 4000), plain(5, 4000), at(5)}, {tooGreat(5)}, {at(5), tooGreat(5), at(5)},
	}
}

// Each error of an event, at the first and at later points; ahead of points that are too great, wherever these are.
func TestWrongEvents(t *testing.T) {
	for _, x := range wrongEvents() {
		for _, p := range []api.Point{at(5, x.e), at(5, x.e, ev(0), ev(77)), at(5, ev(0), x.e, ev(2, num(3))), at(5, append(plain(5, 4090).Events, x.e)...)} {
			for _, ahead := range surroundings() {
				for _, behind := range surroundings() {
					for _, most := range []int{1, 2, math.MaxInt} {
						checkWrong(t, few(), slices.Concat(ahead, []api.Point{p}, behind), most, x.want)
					}
				}
			}
			checkFits(t, few(), p, false)
		}
	}
}

// A time below the one ahead, also where a block would end between the two.
func TestWrongOrder(t *testing.T) {
	for _, ahead := range []int{0, 1, 2, 3, 500, 1022, 1023, 1024, 2000} {
		for _, two := range [][]uint64{{1, 0}, {128, 127}, {math.MaxUint64, 0}, {math.MaxUint64, math.MaxUint64 - 1}, {1 << 63, 1<<63 - 1}} {
			points := append(make([]api.Point, ahead), at(two[0]), at(two[1]))
			for _, most := range []int{1, 2, 3, 4, 1024, math.MaxInt} {
				checkWrong(t, few(), points, most, api.ErrOrder)
				checkWrong(t, few(), append(points, at(two[0], ev(-1))), most, api.ErrOrder)
			}
		}
	}
	for _, most := range []int{1, 2, 1024} {
		checkWrong(t, few(), []api.Point{plain(9, 4000), plain(8, 4000)}, most, api.ErrOrder)
		checkWrong(t, few(), []api.Point{at(9), tooGreat(8)}, most, api.ErrOrder)
		checkWrong(t, few(), []api.Point{tooGreat(9), at(8)}, most, api.ErrOrder)
		checkWrong(t, few(), []api.Point{at(1), at(0, ev(-1))}, most, api.ErrOrder)
		checkWrong(t, few(), []api.Point{at(1, ev(-1)), at(0)}, most, api.ErrName)
		checkWrong(t, few(), []api.Point{at(1, ev(0, num(1))), at(1, ev(1, text("")))}, most, api.ErrArg)
		checkWrong(t, few(), []api.Point{at(1, ev(1, text(""))), at(1, ev(0, num(1)))}, most, api.ErrType)
	}
}

// Too many events of a point, at the first and at later ones.
func TestTooManyEvents(t *testing.T) {
	for _, count := range []int{1025, 1026, 4000, 5000} {
		for _, ahead := range surroundings() {
			for _, most := range []int{1, 2, 1024} {
				checkWrong(t, few(), append(slices.Clone(ahead), at(5, make([]api.Event, count)...)), most, api.ErrLimit)
				checkWrong(t, few(), append(slices.Clone(ahead), at(5, make([]api.Event, count)...), at(6, ev(-1))), most, api.ErrLimit)
				checkWrong(t, few(), append(slices.Clone(ahead), at(5, ev(-1)), at(5, make([]api.Event, count)...)), most, api.ErrName)
			}
		}
		checkFits(t, few(), at(5, make([]api.Event, count)...), false)
	}
	checkFits(t, few(), at(5, make([]api.Event, 1024)...), true)
	checkCut(t, few(), slices.Repeat([]api.Point{at(5, make([]api.Event, 1024)...)}, 8), 1024, 3, 3, 2)
}

// A point alone of 4096 bytes, and of 4097: at the first, at a middle and at the last place.
func TestTooGreat(t *testing.T) {
	for _, time := range []uint64{5, 127, 128, 1 << 40, math.MaxUint64} {
		for size := 4095; size <= 4098; size++ {
			p := plain(time, size-len(number(time))-2)
			if got, e := block.Size(few(), []api.Point{p}); got != size || e != api.OK {
				t.Fatalf("the point has %d bytes, %d, want %d", got, e, size)
			}
			checkFits(t, few(), p, size <= 4096)
			for _, fill := range [][]api.Point{nil, {at(0)}, make([]api.Point, 130), {plain(0, 4000)}} {
				for _, behind := range [][]api.Point{nil, {at(math.MaxUint64)}, {plain(time, 4000), at(time)}} {
					points := slices.Concat(fill, []api.Point{p}, behind)
					for _, most := range []int{1, 2, 1024} {
						if size > 4096 {
							checkWrong(t, few(), points, most, api.ErrLimit)
							continue
						}
						checkModel(t, few(), points, most)
					}
				}
			}
		}
	}
}

// A point that fits alone at its time may not at a later one, as that has more bytes.
func TestTooGreatByItsTime(t *testing.T) {
	p := plain(127, 4093)
	checkFits(t, few(), p, true)
	checkCut(t, few(), []api.Point{at(0), p}, 1024, 1, 1)
	p.At = 128
	checkFits(t, few(), p, false)
	checkWrong(t, few(), []api.Point{at(0), p}, 1024, api.ErrLimit)
	checkWrong(t, few(), []api.Point{p, p}, 1024, api.ErrLimit)
}

// lateText is a point of few that has as many bytes as that alone, and far fewer behind another one, which is answered, too: the text that it has most often, which comes last in it, has a shorter number there.
func lateText(size int) (api.Point, api.Point) {
	p := at(0)
	for i := range 128 {
		p.Events = append(p.Events, ev(2, text(string([]byte{byte(i + 100)}))))
	}
	for range 800 {
		p.Events = append(p.Events, ev(2, text("late")))
	}
	for {
		missing := size - blockSize(p)
		if missing <= 0 {
			return p, listing(0, "late")
		}
		i := 0
		for len(p.Events[i].Args[0].S) > 100 {
			i++
		}
		longer := p.Events[i].Args[0].S + long(min(missing, 20))
		p.Events[i].Args[0] = text(longer)
	}
}

// blockSize is how many bytes a point of few has alone.
func blockSize(p api.Point) int {
	size, _ := block.Size(few(), []api.Point{p})
	return size
}

// A point that is too great alone has no blocks, also where it would have room behind another one.
func TestTooGreatAloneButNotBehind(t *testing.T) {
	great, ahead := lateText(4097)
	if size := blockSize(great); size != 4097 {
		t.Fatalf("the point has %d bytes", size)
	}
	if !putOK(few(), []api.Point{ahead, great}) {
		t.Fatal("the point has no room behind the other one")
	}
	checkFits(t, few(), great, false)
	for _, most := range []int{1, 2, 3, 1024} {
		checkWrong(t, few(), []api.Point{great}, most, api.ErrLimit)
		checkWrong(t, few(), []api.Point{ahead, great}, most, api.ErrLimit)
		checkWrong(t, few(), []api.Point{ahead, ahead, great, ahead}, most, api.ErrLimit)
	}
	fits, ahead := lateText(4096)
	if size := blockSize(fits); size != 4096 {
		t.Fatalf("the point has %d bytes", size)
	}
	checkFits(t, few(), fits, true)
	checkCut(t, few(), []api.Point{ahead, fits}, 2, 2)
	checkCut(t, few(), []api.Point{fits, ahead}, 2, 1, 1)
	checkCut(t, few(), []api.Point{ahead, fits, ahead}, 2, 2, 1)
	checkCut(t, few(), []api.Point{ahead, ahead, fits, ahead}, 2, 2, 1, 1)
	checkCut(t, few(), []api.Point{ahead, ahead, fits, ahead}, 9, 4)
}

// Whether a point fits, of points of all sorts.
func TestFits(t *testing.T) {
	for _, x := range []struct {
		l    []api.Pred
		p    api.Point
		want bool
	}{
		{nil, at(0), true}, {nil, api.Point{}, true}, {[]api.Pred{}, api.Point{Events: []api.Event{}}, true}, {few(), at(math.MaxUint64), true},
		{few(), at(7, ev(0)), true}, {nil, at(7, ev(0)), false}, {few()[:1], at(7, ev(1, num(1))), false}, {few()[:2], at(7, ev(1, num(1))), true},
		{few(), listing(1, names(19)...), true}, {few(), listing(1, names(20)...), true}, {few(), listing(1, names(21)...), false},
		{few(), at(0, slices.Repeat([]api.Event{ev(1, num(5))}, 1024)...), true}, {few(), at(0, slices.Repeat([]api.Event{ev(3, text("a"), num(5), text("a"))}, 1022)...), true},
		{few(), at(0, slices.Repeat([]api.Event{ev(3, text("a"), num(5), text("a"))}, 1023)...), false}, {few(), at(0, slices.Repeat([]api.Event{ev(1, num(8192))}, 1024)...), false},
	} {
		checkFits(t, x.l, x.p, x.want)
	}
	for size := 1; size <= 4200; size += 13 {
		checkFits(t, few(), plain(0, size), size <= 4093)
	}
}

// Many great points, and many small ones, have all their blocks.
func TestManyPoints(t *testing.T) {
	checkCut(t, few(), slices.Repeat([]api.Point{plain(7, 4000)}, 3000), math.MaxInt, slices.Repeat([]int{1}, 3000)...)
	checkCut(t, nil, make([]api.Point, 50000), math.MaxInt, parted(50000, 1024)...)
	var points []api.Point
	for i := range 3000 {
		points = append(points, plain(uint64(i)<<(i/64), i*i%900+1))
	}
	for _, most := range []int{2, 5, 1024} {
		if blocks := checkModel(t, few(), points, most); blocks < 100 {
			t.Errorf("there are only %d blocks", blocks)
		}
	}
}

// crowded are a signature and points whose lists have room behind their ends, in which something stands.
func crowded() ([]api.Pred, []api.Point) {
	types := []int{2, 1, 2, 7, 8, 9}
	l := []api.Pred{pred("q"), {Name: "b", Args: types[:3]}, {Name: "s", Args: types[2:3]}, pred("9", 5)}[:3]
	args := []api.Arg{text("a"), num(5), text("b"), text("behind"), num(-1), text("far behind"), text("b")}
	points := []api.Point{
		at(3, ev(1, args[:3]...), ev(2, args[6:]...), ev(9, args...)),
		at(3, ev(2, args[:1]...), ev(1, args[2:5]...)),
		at(300, ev(2, args[6:]...), ev(9)),
		at(1, ev(-1)),
	}
	points[0].Events = points[0].Events[:2]
	points[1].Events[1].Args = append(args[2:3:3], num(7), text(""))
	points[2].Events = points[2].Events[:1]
	return l, points[:3]
}

// crowdedBlocks are the blocks of crowded's points, at most two in a block, by hand.
const crowdedBlocks = `{@3 1([2 0 "a"][1 5 ""][2 0 "b"]) 2([2 0 "b"]);@3 2([2 0 "a"]) 1([2 0 "b"][1 7 ""][2 0 ""]);}{@300 2([2 0 "b"]);}`

// whole is a signature and points, with all that is behind the ends of their lists.
func whole(l []api.Pred, points []api.Point) string {
	var all strings.Builder
	for _, p := range l[:cap(l)] {
		fmt.Fprintf(&all, "%q%v;", p.Name, p.Args[:cap(p.Args)])
	}
	for _, p := range points[:cap(points)] {
		fmt.Fprintf(&all, "@%d", p.At)
		for _, e := range p.Events[:cap(p.Events)] {
			fmt.Fprintf(&all, " %d%+q", e.Pred, fmt.Sprint(e.Args[:cap(e.Args)]))
		}
	}
	return all.String()
}

// checkCrowded holds that Blocks answers crowded's blocks of a signature and points.
func checkCrowded(t *testing.T, l []api.Pred, points []api.Point) {
	t.Helper()
	checkCut(t, l, points, 2, 2, 1)
	blocks, e := Blocks(l, points, 2)
	if got := toldBlocks(blocks); got != crowdedBlocks || e != api.OK {
		t.Errorf("crowded's blocks are %s, %d", got, e)
	}
}

// What is handed in stays as it was, and what is behind the ends of its lists isn't gone to.
func TestLeavesWhatIsHandedIn(t *testing.T) {
	l, points := crowded()
	was := whole(l, points)
	for range 3 {
		checkCrowded(t, l, points)
		checkCut(t, l, points, 1, 1, 1, 1)
		checkCut(t, l, points, 1024, 3)
		checkCut(t, l, points[:0], 1024)
		checkWrong(t, l, points[:4], 2, api.ErrOrder)
		checkWrong(t, l[:4], points, 2, api.ErrName)
		checkWrong(t, l, points, 0, api.ErrArg)
		checkFits(t, l, points[0], true)
		checkFits(t, l, points[:4][3], false)
	}
	if now := whole(l, points); now != was {
		t.Errorf("what was handed in is %s, was %s", now, was)
	}
	great, ahead := lateText(4097)
	list := []api.Point{ahead, great}
	was = whole(nil, list)
	checkWrong(t, few(), list, 2, api.ErrLimit)
	if now := whole(nil, list); now != was {
		t.Error("a trace that is refused isn't what it was")
	}
}

// spoil writes over points, and behind them as far as there is room.
func spoil(points []api.Point) {
	points = points[:cap(points)]
	for i := range points {
		events := points[i].Events[:cap(points[i].Events)]
		for k := range events {
			args := events[k].Args[:cap(events[k].Args)]
			for m := range args {
				args[m] = api.Arg{Type: 9, N: 9, S: "spoilt"}
			}
			events[k] = api.Event{Pred: -9}
		}
		points[i] = api.Point{At: 9}
	}
}

// Whoever writes into what was handed in changes nothing of what was answered; and what is answered then is of what stands there then.
func TestKeepsNothing(t *testing.T) {
	l, points := crowded()
	blocks, _ := Blocks(l, points, 2)
	sizes, _ := Sizes(l, points, 2)
	points[2].At = 4
	checkModel(t, l, points, 2)
	points[2].Events[0].Args[0] = text("c")
	checkModel(t, l, points, 3)
	points[1].At = 5
	checkWrong(t, l, points, 2, api.ErrOrder)
	l[1].Args[1] = 2
	checkWrong(t, l, points, 2, api.ErrType)
	checkFits(t, l, points[0], false)
	spoil(points)
	clear(l)
	if got := toldBlocks(blocks); got != crowdedBlocks {
		t.Errorf("what was answered became %s", got)
	}
	if !slices.Equal(sizes, []int{2, 1}) {
		t.Errorf("the sizes that were answered became %v", sizes)
	}
}

// What is answered is new memory: with it written into, what was handed in, other answers and the answer's other blocks stay.
func TestAnswersNewMemory(t *testing.T) {
	l, points := crowded()
	was := whole(l, points)
	first, _ := Blocks(l, points, 2)
	for range 3 {
		other, _ := Blocks(l, points, 2)
		rest := toldBlocks(other[1:])
		spoil(other[0])
		if got := toldBlocks(other[1:]); got != rest {
			t.Errorf("with the first block written into, the others are %s, were %s", got, rest)
		}
		spoil(other[1])
		clear(other[:cap(other)])
		other, _ = Blocks(l, points, 2)
		front := toldBlocks(other[:1])
		spoil(other[1])
		if got := toldBlocks(other[:1]); got != front {
			t.Errorf("with the last block written into, the first is %s, was %s", got, front)
		}
		sizes, _ := Sizes(l, points, 2)
		sizes = sizes[:cap(sizes)]
		for i := range sizes {
			sizes[i] = 99
		}
		checkCrowded(t, l, points)
	}
	if got := toldBlocks(first); got != crowdedBlocks {
		t.Errorf("with other answers written into, the first one is %s", got)
	}
	if now := whole(l, points); now != was {
		t.Errorf("with answers written into, what was handed in is %s, was %s", now, was)
	}
}

// The same where there are many blocks, with points, events and arguments that are one and the same memory in what is handed in.
func TestSharesNoMemory(t *testing.T) {
	shared := []api.Event{ev(3, text("a"), num(5), text("b")), ev(1, num(3))}
	points := slices.Repeat([]api.Point{at(7, shared...)}, 60)
	one := told(points[:1])
	for _, most := range []int{1, 4, 9, 59, 1024} {
		blocks, _ := Blocks(few(), points, most)
		for i, b := range blocks {
			for k := range b {
				if got := told(b[k : k+1]); got != one {
					t.Fatalf("point %d of block %d is %s", k, i, got)
				}
				events := b[k].Events[:cap(b[k].Events)]
				for m := range events {
					clear(events[m].Args[:cap(events[m].Args)])
				}
				clear(events)
			}
			_ = append(b, at(0))
		}
		if got := told(points); got != strings.Repeat(one, 60) {
			t.Fatal("with blocks written into, the points aren't what they were")
		}
	}
}

// A nil list is the same as an empty one.
func TestNilAndEmpty(t *testing.T) {
	for _, l := range [][]api.Pred{{pred("q")}, {{Name: "q", Args: []int{}}}} {
		for _, events := range [][]api.Event{{{}}, {{Args: []api.Arg{}}}} {
			points := []api.Point{{Events: events}, {}, {Events: []api.Event{}}}
			checkCut(t, l, points, 2, 2, 1)
			blocks, _ := Blocks(l, points, 2)
			if got := toldBlocks(blocks); got != "{@0 0();@0;}{@0;}" {
				t.Errorf("the blocks are %s", got)
			}
			checkFits(t, l, points[0], true)
		}
	}
}

// An answer hangs on what was handed in alone, not on the calls ahead.
func TestHangsOnNothingElse(t *testing.T) {
	l := names(20)
	for range 3 {
		checkCut(t, few(), []api.Point{listing(0, l...), listing(0, l[0])}, 2, 2)
		checkWrong(t, few(), []api.Point{at(0)}, 0, api.ErrArg)
		checkCut(t, few(), []api.Point{listing(0, l[:19]...), listing(1, l[19]), listing(2, l[1]), at(3)}, 3, 3, 1)
		checkWrong(t, few(), []api.Point{at(0), tooGreat(1)}, 2, api.ErrLimit)
		checkCut(t, few(), make([]api.Point, 1025), 5000, 1024, 1)
		checkWrong(t, few(), []api.Point{at(0), at(0, ev(2))}, 2, api.ErrArg)
		checkCut(t, few(), nil, 1)
		checkFits(t, few(), tooGreat(0), false)
		checkFits(t, few(), plain(0, 4093), true)
	}
}
