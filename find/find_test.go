package find

import (
	"bytes"
	"fmt"
	"math"
	"slices"
	"testing"

	"tachograph/api"
	"tachograph/frame"
)

// The bytes of some frames, by the chapter of layer 5, written out.
const (
	mark  = "\xc7TG\x01"
	none1 = mark + "\x01\x00\xbe\x23\xc2\x58"
	none2 = mark + "\x02\x00\x7d\x70\xef\x73"
	one2  = mark + "\x02\x01a\xf3\x6d\x6b\xdf"
	hello = mark + "\x02\x05hello\x7f\x0e\x0c\xaa"
)

// whole are a frame's bytes.
func whole(kind int, payload string) string {
	b, e := frame.Put(api.Frame{Kind: kind, Payload: []byte(payload)})
	if e != api.OK {
		panic("no such frame")
	}
	return string(b)
}

// wounded are bytes the one of which at a place is another one.
func wounded(s string, at int) string {
	b := []byte(s)
	b[at] ^= 0x10
	return string(b)
}

// filled are bytes of a fixed pattern, another one for each seed, without the mark's first one: no frame may begin in them.
func filled(size, seed int) string {
	b := make([]byte, size)
	for i := range b {
		b[i] = byte(i*i*31 + i*seed*7 + seed*seed + i>>3)
		if b[i] == mark[0] {
			b[i]++
		}
	}
	return string(b)
}

// scene are bytes, and by hand the places at which a frame begins, and at which one may yet.
type scene struct {
	name   string
	b      string
	begins []int
	mayBe  []int
	long   bool // too long to be gone through with each byte behind
}

// nested is a frame within a frame's payload within a frame's payload, with a byte ahead of each.
func nested() string {
	return "\x00" + whole(2, "\x00"+whole(1, "\x00"+hello))
}

func scenes() []scene {
	long := whole(2, filled(4096, 3))
	within := whole(1, "x"+one2+"y"+none1)
	return []scene{
		{name: "no bytes"},
		{name: "a byte 0", b: "\x00"},
		{name: "no frame", b: filled(60, 1)},
		{name: "the mark backwards", b: "\x01GT\xc7\x00\x01"},
		{name: "a frame of another kind", b: mark + "\x03\x00\x00\x00\x00\x00"},
		{name: "a length with a longer writing", b: mark + "\x02\x81\x00a\xf3\x6d\x6b\xdf"},
		{name: "a length that is too long", b: mark + "\x02\xff\xff\xff\xff\xff\xff\xff\xff\xff\x02"},
		{name: "a length above the limit", b: mark + "\x02\x81\x20"},
		{name: "another sum", b: wounded(one2, 10)},
		{name: "another payload", b: wounded(hello, 8)},
		{name: "a frame alone", b: none1, begins: []int{0}},
		{name: "a frame behind a byte 0", b: "\x00" + hello, begins: []int{1}},
		{name: "a frame with bytes behind", b: one2 + "\x00\x01\x02", begins: []int{0}},
		{name: "a frame between bytes", b: "\x00T" + one2 + "G\x01", begins: []int{2}},
		{name: "a frame behind its first bytes", b: mark + hello, begins: []int{4}},
		{name: "frames side by side", b: none1 + none2 + one2 + one2, begins: []int{0, 10, 20, 31}},
		{name: "frames with bytes between", b: "x" + none1 + "yz" + hello + "\xc7" + none2 + "w", begins: []int{1, 13, 29}},
		{name: "a frame within another one", b: whole(2, none1), begins: []int{0, 6}},
		{name: "two frames within another one", b: within, begins: []int{0, 7, 19}},
		{name: "frames within frames", b: nested(), begins: []int{1, 8, 15}},
		{name: "a frame within one of another sum", b: wounded(within, len(within)-1), begins: []int{7, 19}},
		{name: "a frame within one of another kind", b: wounded(within, 4), begins: []int{7, 19}},
		{name: "a frame behind one of another sum", b: wounded(hello, 14) + none2, begins: []int{15}},
		{name: "a mark alone", b: mark, mayBe: []int{0}},
		{name: "a mark's first byte at the end", b: "ab\xc7", mayBe: []int{2}},
		{name: "a mark's front, again and again", b: "\xc7T\xc7TG\xc7T", mayBe: []int{5}},
		{name: "a frame cut off", b: "\x00" + hello[:14], mayBe: []int{1}},
		{name: "a frame cut off behind a frame", b: none1 + one2[:8], begins: []int{0}, mayBe: []int{10}},
		{name: "a frame within one that is cut off", b: within[:len(within)-1], begins: []int{7, 19}, mayBe: []int{0}},
		{name: "a frame cut off within one that is cut off", b: within[:len(within)-6], begins: []int{7}, mayBe: []int{0, 19}},
		{name: "a frame within a payload that isn't all there", b: mark + "\x01\x80\x20" + none1 + "zz", begins: []int{7}, mayBe: []int{0}},
		{name: "a length that isn't all there", b: mark + "\x01\xff\xff\xff\xff\xff\xff\xff\xff\xff", mayBe: []int{0}},
		{name: "a longest frame", b: "\x00" + long + none1, begins: []int{1, 4108}, long: true},
		{name: "a longest frame, cut off", b: long[:4106], mayBe: []int{0}, long: true},
	}
}

// froms are places to go from: all of them, beyond both ends, and far beyond.
func froms(size int) []int {
	l := []int{math.MinInt, math.MinInt + 1, -4107, math.MaxInt - 1, math.MaxInt, size + 4107}
	for from := -3; from <= size+3; from++ {
		l = append(l, from)
	}
	return l
}

// firstOf is the first of some places, in order, that isn't ahead of from, and whether there is one.
func firstOf(places []int, from int) (int, bool) {
	for _, at := range places {
		if at >= from {
			return at, true
		}
	}
	return 0, false
}

// byFrame are, by layer 5's Get alone, the places at which a frame begins, and at which one may yet.
func byFrame(b []byte) (begins, mayBe []int) {
	for at := range b {
		switch _, _, e := frame.Get(slices.Clone(b[at:])); e {
		case api.OK:
			begins = append(begins, at)
		case api.ErrShort:
			mayBe = append(mayBe, at)
		}
	}
	return begins, mayBe
}

// short is the front of bytes, so that a failure can be read.
func short(b []byte) string {
	return fmt.Sprintf("%d bytes, %x", len(b), b[:min(len(b), 40)])
}

// checkPlaces holds Next, Open and Count against the places at which frames begin, and may yet.
func checkPlaces(t *testing.T, name string, b []byte, begins, mayBe []int, froms []int) {
	t.Helper()
	before := slices.Clone(b)
	either := slices.Sorted(slices.Values(slices.Concat(begins, mayBe)))
	for _, from := range froms {
		want, wantOK := firstOf(begins, from)
		if at, ok := Next(b, from); at != want || ok != wantOK {
			t.Errorf("%s: Next(%s, %d) = %d, %v, want %d, %v", name, short(b), from, at, ok, want, wantOK)
		}
		want, wantOK = firstOf(either, from)
		if at, ok := Open(b, from); at != want || ok != wantOK {
			t.Errorf("%s: Open(%s, %d) = %d, %v, want %d, %v", name, short(b), from, at, ok, want, wantOK)
		}
	}
	if count := Count(b); count != len(begins) {
		t.Errorf("%s: Count(%s) = %d, want %d", name, short(b), count, len(begins))
	}
	if !bytes.Equal(b, before) {
		t.Errorf("%s: what was handed in became %s", name, short(b))
	}
}

// checkAt holds At at a place against layer 5's Get of the bytes from there on.
func checkAt(t *testing.T, name string, b []byte, at int) {
	t.Helper()
	want, wantSize, wantE := api.Frame{}, 0, api.ErrArg
	if at >= 0 && at <= len(b) {
		want, wantSize, wantE = frame.Get(slices.Clone(b[at:]))
	}
	f, size, e := At(b, at)
	if f.Kind != want.Kind || !bytes.Equal(f.Payload, want.Payload) || size != wantSize || e != wantE {
		t.Errorf("%s: At(%s, %d) = %v, %d, %v, want %v, %d, %v", name, short(b), at, f, size, e, want, wantSize, wantE)
	}
	if e != api.OK && f.Payload != nil {
		t.Errorf("%s: At(%s, %d) has a payload beside an error", name, short(b), at)
	}
}

func TestExample(t *testing.T) {
	b := []byte("\x00" + none1)
	if at, ok := Next(b, 0); at != 1 || !ok {
		t.Errorf("Next = %d, %v, want 1, true", at, ok)
	}
}

func TestAt(t *testing.T) {
	for _, s := range scenes() {
		for _, at := range froms(len(s.b)) {
			checkAt(t, s.name, []byte(s.b), at)
		}
	}
}

func TestAtKnown(t *testing.T) {
	b := []byte("\x00" + hello + "ab" + none1 + mark)
	for _, c := range []struct {
		at   int
		f    api.Frame
		size int
		e    api.Errno
	}{
		{math.MinInt, api.Frame{}, 0, api.ErrArg},
		{-1, api.Frame{}, 0, api.ErrArg},
		{0, api.Frame{}, 0, api.ErrForm},
		{1, api.Frame{Kind: 2, Payload: []byte("hello")}, 15, api.OK},
		{2, api.Frame{}, 0, api.ErrForm},
		{16, api.Frame{}, 0, api.ErrForm},
		{18, api.Frame{Kind: 1}, 10, api.OK},
		{28, api.Frame{}, 0, api.ErrShort},
		{29, api.Frame{}, 0, api.ErrForm},
		{32, api.Frame{}, 0, api.ErrShort},
		{33, api.Frame{}, 0, api.ErrArg},
		{math.MaxInt, api.Frame{}, 0, api.ErrArg},
	} {
		f, size, e := At(b, c.at)
		if f.Kind != c.f.Kind || !bytes.Equal(f.Payload, c.f.Payload) || size != c.size || e != c.e {
			t.Errorf("At %d = %v, %d, %v, want %v, %d, %v", c.at, f, size, e, c.f, c.size, c.e)
		}
	}
}

// Each error of layer 5 is told at the place at which it is met.
func TestAtTellsWhy(t *testing.T) {
	for _, c := range []struct {
		b string
		e api.Errno
	}{
		{"", api.ErrShort},
		{mark, api.ErrShort},
		{hello[:14], api.ErrShort},
		{"\xc7S", api.ErrForm},
		{mark + "\x00", api.ErrForm},
		{mark + "\x01\x80\x00", api.ErrForm},
		{mark + "\x01\xff\xff\xff\xff\xff\xff\xff\xff\xff\x02", api.ErrLong},
		{mark + "\x01\x81\x20", api.ErrLimit},
		{wounded(hello, 12), api.ErrSum},
	} {
		for _, ahead := range []string{"", "\x00", mark, none1} {
			if f, size, e := At([]byte(ahead+c.b), len(ahead)); e != c.e || size != 0 || f.Kind != 0 || f.Payload != nil {
				t.Errorf("At(%x behind %x) = %v, %d, %v, want %v", c.b, ahead, f, size, e, c.e)
			}
		}
	}
}

func TestNextAndOpenAndCount(t *testing.T) {
	for _, s := range scenes() {
		checkPlaces(t, s.name, []byte(s.b), s.begins, s.mayBe, froms(len(s.b)))
	}
}

// The places of the scenes, which are written by hand, are those of layer 5's Get.
func TestScenesAreRight(t *testing.T) {
	for _, s := range scenes() {
		begins, mayBe := byFrame([]byte(s.b))
		if !slices.Equal(begins, s.begins) || !slices.Equal(mayBe, s.mayBe) {
			t.Errorf("%s: frames begin at %v, may yet at %v; by hand %v, %v", s.name, begins, mayBe, s.begins, s.mayBe)
		}
	}
}

// A frame that is cut off at the end is answered by Open, wherever it is cut off, and never by Next.
func TestCutOffAnywhere(t *testing.T) {
	ahead := "\x00\x01"
	for _, full := range []string{none1, one2, hello, whole(1, filled(130, 2))} {
		for size := 1; size < len(full); size++ {
			b := []byte(ahead + full[:size])
			checkPlaces(t, "cut off", b, nil, []int{len(ahead)}, froms(len(b)))
		}
		b := []byte(ahead + full)
		checkPlaces(t, "not cut off", b, []int{len(ahead)}, nil, froms(len(b)))
	}
}

// What is in memory behind the end isn't read.
func TestNotBeyondTheEnd(t *testing.T) {
	room := []byte("\x00" + hello)
	for size := range len(room) {
		b := room[:size]
		checkAt(t, "room behind", b, min(1, size))
		if at, ok := Next(b, 0); at != 0 || ok {
			t.Errorf("Next of %d bytes with a frame's rest behind = %d, %v", size, at, ok)
		}
		if _, _, e := At(b, size); e != api.ErrShort {
			t.Errorf("At the end of %d bytes = %v", size, e)
		}
		if _, _, e := At(b, size+1); e != api.ErrArg {
			t.Errorf("At beyond the end of %d bytes = %v", size, e)
		}
	}
}

// Nil is the same as no bytes.
func TestNoBytes(t *testing.T) {
	for _, b := range [][]byte{nil, {}, []byte(hello)[:0]} {
		for _, at := range froms(0) {
			checkAt(t, "no bytes", b, at)
		}
		if _, size, e := At(b, 0); size != 0 || e != api.ErrShort {
			t.Errorf("At(no bytes, 0) = %d, %v", size, e)
		}
		checkPlaces(t, "no bytes", b, nil, nil, froms(0))
	}
}

// shortBytes are all bytes up to a length, of those of the mark and one more.
func shortBytes(most int) [][]byte {
	all := [][]byte{nil}
	for i := 0; len(all[i]) < most; i++ {
		for _, c := range []byte(mark + "\x00") {
			all = append(all, append(slices.Clone(all[i]), c))
		}
	}
	return all
}

func TestAllShortBytes(t *testing.T) {
	for _, b := range shortBytes(6) {
		begins, mayBe := byFrame(b)
		for at := -1; at <= len(b)+1; at++ {
			checkAt(t, "short bytes", b, at)
		}
		checkPlaces(t, "short bytes", b, begins, mayBe, []int{-1, 0, 1, 2, 3, len(b) - 1, len(b), len(b) + 1})
	}
}

func TestCount(t *testing.T) {
	many := ""
	for i := range 40 {
		if count := Count([]byte(many)); count != i {
			t.Errorf("Count of %d frames = %d", i, count)
		}
		many += whole(1+i%2, filled(i, i)) + filled(i%3, 5)
	}
	within := ""
	for i := range 20 {
		if count := Count([]byte(within)); count != i {
			t.Errorf("Count of %d frames, one within another = %d", i, count)
		}
		within = whole(1+i%2, within)
	}
}

// behinds are bytes of any sort that may come behind.
func behinds() []string {
	l := []string{"", mark, none1, none2, one2, hello, nested(), filled(50, 4), filled(5000, 5), string(make([]byte, 5000)), "\xff\xff\xff\xff\xff\xff\xff\xff\xff\xff\xff\xff"}
	for _, full := range []string{none1, one2, hello, whole(1, "x"+one2+"y"+none1)} {
		for from := range len(full) {
			l = append(l, full[from:], full[:from])
		}
	}
	for c := range 256 {
		l = append(l, string([]byte{byte(c)}))
	}
	return l
}

// checkYet holds P6.2 for bytes with more behind: what begins stays, and what doesn't, and may not yet, never does.
func checkYet(t *testing.T, name, b, behind string) {
	t.Helper()
	more := []byte(b + behind)
	for at := range len(b) + 1 {
		f, size, e := At([]byte(b), at)
		if e == api.ErrShort {
			continue
		}
		later, laterSize, laterE := At(more, at)
		if (laterE == api.OK) != (e == api.OK) || later.Kind != f.Kind || !bytes.Equal(later.Payload, f.Payload) || laterSize != size {
			t.Errorf("%s: at %d there was %v, %d, %v; with %x behind there is %v, %d, %v", name, at, f, size, e, behind[:min(len(behind), 20)], later, laterSize, laterE)
		}
	}
	yet, open := Open([]byte(b), 0)
	if !open {
		yet = len(b)
	}
	if at, ok := Next(more, 0); ok && at < yet {
		t.Errorf("%s: with %x behind a frame begins at %d, ahead of %d", name, behind[:min(len(behind), 20)], at, yet)
	}
	for at, ok := Next([]byte(b), 0); ok; at, ok = Next([]byte(b), at+1) {
		if now, ok := Next(more, at); now != at || !ok {
			t.Errorf("%s: with %x behind no frame begins at %d any more: %d, %v", name, behind[:min(len(behind), 20)], at, now, ok)
		}
	}
}

func TestYet(t *testing.T) {
	for _, s := range scenes() {
		for _, behind := range behinds() {
			if s.long && len(behind) == 1 {
				continue
			}
			checkYet(t, s.name, s.b, behind)
		}
	}
}

// Bytes of several frames, some of them hurt, cut anywhere: the rest comes behind, or something else does.
func TestYetCutAnywhere(t *testing.T) {
	b := "\x00\xc7" + hello + wounded(one2, 8) + mark + whole(2, none1+"\xc7") + wounded(hello, 4) + wounded(hello, 5) + none2 + "\xc7T"
	for cut := range len(b) + 1 {
		for _, behind := range []string{b[cut:], b, mark, none1, filled(70, 6), string(make([]byte, 70)), "\xc7"} {
			checkYet(t, fmt.Sprintf("cut at %d", cut), b[:cut], behind)
		}
	}
}

func TestYetOfShortBytes(t *testing.T) {
	all := shortBytes(4)
	for _, b := range all {
		for _, behind := range all {
			checkYet(t, fmt.Sprintf("%x", b), string(b), string(behind))
		}
	}
}

// Where one may yet begin, it does with its rest behind: Open answers no place in vain.
func TestYetBegins(t *testing.T) {
	for _, full := range []string{none1, one2, hello, whole(1, filled(200, 7))} {
		for cut := 1; cut < len(full); cut++ {
			at, ok := Open([]byte("\x00"+full[:cut]), 0)
			if at != 1 || !ok {
				t.Errorf("Open of a frame cut off at %d = %d, %v", cut, at, ok)
			}
			if at, ok := Next([]byte("\x00"+full[:cut]+full[cut:]), 0); at != 1 || !ok {
				t.Errorf("Next of a frame cut off at %d, with its rest = %d, %v", cut, at, ok)
			}
		}
	}
}

func TestLeavesWhatIsHandedIn(t *testing.T) {
	room := []byte("\x00" + hello + mark + "and more")
	before := slices.Clone(room)
	b := room[:20]
	for range 2 {
		At(b, 1)
		At(b, 0)
		At(b, -1)
		Next(b, 0)
		Open(b, 2)
		Count(b)
	}
	if !bytes.Equal(room, before) {
		t.Errorf("what was handed in became %x", room)
	}
}

func TestAnswersNewMemory(t *testing.T) {
	b := []byte("\x00" + hello + none2)
	before := slices.Clone(b)
	f, size, _ := At(b, 1)
	other, _, _ := At(b, 1)
	for i := range b {
		b[i] = 0xee
	}
	if string(f.Payload) != "hello" || size != 15 {
		t.Errorf("what At answered became %q, %d", f.Payload, size)
	}
	copy(b, before)
	for i := range f.Payload {
		f.Payload[i] = 'x'
	}
	_ = append(f.Payload, "xxxxxxxxxxxxxxx"...)
	if !bytes.Equal(b, before) {
		t.Errorf("what At answered is the memory that was handed in: %x", b)
	}
	if string(other.Payload) != "hello" {
		t.Errorf("two answers share memory: %q", other.Payload)
	}
	if again, _, _ := At(b, 1); string(again.Payload) != "hello" {
		t.Errorf("what At answers became %q", again.Payload)
	}
}

// Nothing is kept from call to call: what is answered hangs on the bytes as they are.
func TestKeepsNothing(t *testing.T) {
	b := []byte("\x00" + hello + none2)
	checkPlaces(t, "at first", b, []int{1, 16}, nil, froms(len(b)))
	b[1]++
	checkPlaces(t, "with the first mark hurt", b, []int{16}, nil, froms(len(b)))
	checkAt(t, "with the first mark hurt", b, 1)
	b[1]--
	checkPlaces(t, "as at first", b, []int{1, 16}, nil, froms(len(b)))
	checkAt(t, "as at first", b, 1)
}
