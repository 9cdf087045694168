package segs

import (
	"bytes"
	"fmt"
	"slices"
	"testing"

	"tachograph/api"
	"tachograph/find"
	"tachograph/frame"
)

// The bytes of some frames, by the chapter of layer 5, written out.
const (
	mark  = "\xc7TG\x01"
	none1 = mark + "\x01\x00\xbe\x23\xc2\x58"
	none2 = mark + "\x02\x00\x7d\x70\xef\x73"
	one2  = mark + "\x02\x01a\xf3\x6d\x6b\xdf"
	hello = mark + "\x02\x05hello\x7f\x0e\x0c\xaa"
)

// whole are a frame's bytes.
func whole(kind int, payload string) string {
	b, e := frame.Put(api.Frame{Kind: kind, Payload: []byte(payload)})
	if e != api.OK {
		panic("no such frame")
	}
	return string(b)
}

// wounded are bytes the one of which at a place is another one.
func wounded(s string, at int) string {
	b := []byte(s)
	b[at] ^= 0x10
	return string(b)
}

// filled are bytes of a fixed pattern, another one for each seed, without the mark's first one: no frame may begin in them.
func filled(size, seed int) string {
	b := make([]byte, size)
	for i := range b {
		b[i] = byte(i*i*31 + i*seed*7 + seed*seed + i>>3)
		if b[i] == mark[0] {
			b[i]++
		}
	}
	return string(b)
}

// skip is the part of bytes that are skipped.
func skip(from, n int) api.Seg {
	return api.Seg{From: from, N: n}
}

// whole1 and whole2 are the parts of frames of the two kinds.
func whole1(from, n int, payload string) api.Seg {
	return api.Seg{From: from, N: n, Is: true, Frame: api.Frame{Kind: 1, Payload: []byte(payload)}}
}

func whole2(from, n int, payload string) api.Seg {
	return api.Seg{From: from, N: n, Is: true, Frame: api.Frame{Kind: 2, Payload: []byte(payload)}}
}

// scene are bytes, and their parts, by hand.
type scene struct {
	name  string
	b     string
	parts []api.Seg
}

func scenes() []scene {
	return slices.Concat(bareScenes(), sideScenes(), withinScenes(), cutScenes(), longScenes())
}

// bareScenes have no frame.
func bareScenes() []scene {
	return []scene{
		{"no bytes", "", nil},
		{"a byte 0", "\x00", []api.Seg{skip(0, 1)}},
		{"three bytes", "abc", []api.Seg{skip(0, 3)}},
		{"no mark", filled(60, 1), []api.Seg{skip(0, 60)}},
		{"the mark backwards", "\x01GT\xc7\x00\x01", []api.Seg{skip(0, 6)}},
		{"a mark alone", mark, []api.Seg{skip(0, 4)}},
		{"a mark's first byte, again and again", "\xc7\xc7\xc7", []api.Seg{skip(0, 3)}},
		{"a frame of another kind", mark + "\x03\x00\x00\x00\x00\x00", []api.Seg{skip(0, 10)}},
		{"a length with a longer writing", mark + "\x02\x81\x00a\xf3\x6d\x6b\xdf", []api.Seg{skip(0, 12)}},
		{"a length above the limit", mark + "\x02\x81\x20ab", []api.Seg{skip(0, 9)}},
		{"a length that is too long", mark + "\x02\xff\xff\xff\xff\xff\xff\xff\xff\xff\x02", []api.Seg{skip(0, 15)}},
		{"another sum", wounded(one2, 10), []api.Seg{skip(0, 11)}},
		{"another payload", wounded(hello, 8), []api.Seg{skip(0, 15)}},
		{"another mark", wounded(hello, 0), []api.Seg{skip(0, 15)}},
	}
}

// sideScenes have frames, and bytes beside them.
func sideScenes() []scene {
	return []scene{
		{"a frame alone", none1, []api.Seg{whole1(0, 10, "")}},
		{"a frame with a payload alone", hello, []api.Seg{whole2(0, 15, "hello")}},
		{"two bytes 0 ahead of a frame", "\x00\x00" + none1, []api.Seg{skip(0, 2), whole1(2, 10, "")}},
		{"a frame with bytes behind", one2 + "\x00\x01\x02", []api.Seg{whole2(0, 11, "a"), skip(11, 3)}},
		{"a frame between bytes", "\x00T" + one2 + "G\x01", []api.Seg{skip(0, 2), whole2(2, 11, "a"), skip(13, 2)}},
		{"a frame behind its first bytes", mark + hello, []api.Seg{skip(0, 4), whole2(4, 15, "hello")}},
		{"a frame behind its mark's first byte", "\xc7" + none2, []api.Seg{skip(0, 1), whole2(1, 10, "")}},
		{"two frames side by side", none1 + none2, []api.Seg{whole1(0, 10, ""), whole2(10, 10, "")}},
		{"frames side by side", none1 + one2 + one2 + hello, []api.Seg{whole1(0, 10, ""), whole2(10, 11, "a"), whole2(21, 11, "a"), whole2(32, 15, "hello")}},
		{"a byte between frames", none1 + "x" + none1, []api.Seg{whole1(0, 10, ""), skip(10, 1), whole1(11, 10, "")}},
		{"frames with bytes between", "x" + none1 + "yz" + hello + "\xc7" + none2 + "wvu", []api.Seg{skip(0, 1), whole1(1, 10, ""), skip(11, 2), whole2(13, 15, "hello"), skip(28, 1), whole2(29, 10, ""), skip(39, 3)}},
		{"a hurt frame between frames", none1 + wounded(hello, 9) + none2, []api.Seg{whole1(0, 10, ""), skip(10, 15), whole2(25, 10, "")}},
		{"hurt frames in a row, and bytes", wounded(one2, 1) + "xy" + wounded(one2, 5) + wounded(one2, 10) + one2, []api.Seg{skip(0, 35), whole2(35, 11, "a")}},
	}
}

// withinScenes have frames within frames: what is within a part is no part of its own, what is within skipped bytes is one.
func withinScenes() []scene {
	two := "x" + one2 + "y" + none1 // 1, 11, 1, 10
	outer := whole(1, two)          // 6 ahead of them, 4 behind
	inner := whole(2, none1)        // 6, 10, 4
	nested := whole(1, "z"+inner)   // 6, 1, 20, 4
	return []scene{
		{"a frame within another one", inner, []api.Seg{whole2(0, 20, none1)}},
		{"two frames within another one", outer, []api.Seg{whole1(0, 33, two)}},
		{"two frames within one between others", none2 + outer + hello, []api.Seg{whole2(0, 10, ""), whole1(10, 33, two), whole2(43, 15, "hello")}},
		{"a frame within one within one", "\x00" + nested, []api.Seg{skip(0, 1), whole1(1, 31, "z"+inner)}},
		{"two frames within one of another sum", wounded(outer, 32), []api.Seg{skip(0, 7), whole2(7, 11, "a"), skip(18, 1), whole1(19, 10, ""), skip(29, 4)}},
		{"two frames within one of another kind", wounded(outer, 4), []api.Seg{skip(0, 7), whole2(7, 11, "a"), skip(18, 1), whole1(19, 10, ""), skip(29, 4)}},
		{"a frame within one within one of another sum", wounded(nested, 28), []api.Seg{skip(0, 7), whole2(7, 20, none1), skip(27, 4)}},
		{"a frame within two of other sums", wounded(wounded(nested, 28), 24), []api.Seg{skip(0, 13), whole1(13, 10, ""), skip(23, 8)}},
		{"a frame within one that is told to be longer", mark + "\x01\x06" + none1 + "zz", []api.Seg{skip(0, 6), whole1(6, 10, ""), skip(16, 2)}},
	}
}

// cutScenes have frames that are cut off at the end.
func cutScenes() []scene {
	two := "x" + one2 + "y" + none1
	outer := whole(1, two)
	return []scene{
		{"a frame cut off", hello[:14], []api.Seg{skip(0, 14)}},
		{"a frame cut off behind bytes", "\x00\x00" + hello[:3], []api.Seg{skip(0, 5)}},
		{"a frame cut off behind a frame", none1 + one2[:8], []api.Seg{whole1(0, 10, ""), skip(10, 8)}},
		{"a frame cut off behind a frame and bytes", none1 + "xyz" + one2[:10], []api.Seg{whole1(0, 10, ""), skip(10, 13)}},
		{"two frames within one that is cut off", outer[:32], []api.Seg{skip(0, 7), whole2(7, 11, "a"), skip(18, 1), whole1(19, 10, ""), skip(29, 3)}},
		{"frames within one that is cut off behind them", outer[:29], []api.Seg{skip(0, 7), whole2(7, 11, "a"), skip(18, 1), whole1(19, 10, "")}},
		{"a frame cut off within one that is cut off", outer[:28], []api.Seg{skip(0, 7), whole2(7, 11, "a"), skip(18, 10)}},
		{"a length that isn't all there", mark + "\x01\xff", []api.Seg{skip(0, 6)}},
		{"a frame behind a length that isn't all there", mark + "\x01\x80\x20" + none1 + "zz", []api.Seg{skip(0, 7), whole1(7, 10, ""), skip(17, 2)}},
	}
}

// longScenes have frames that are as long as they may be.
func longScenes() []scene {
	most := filled(4096, 3)
	long := whole(2, most)
	return []scene{
		{"a longest frame", long, []api.Seg{whole2(0, 4107, most)}},
		{"a longest frame between others", "\x00" + none1 + long + none2 + "\x00", []api.Seg{skip(0, 1), whole1(1, 10, ""), whole2(11, 4107, most), whole2(4118, 10, ""), skip(4128, 1)}},
		{"a longest frame, cut off", long[:4106], []api.Seg{skip(0, 4106)}},
		{"a longest frame, hurt at its end", wounded(long, 4106) + none1, []api.Seg{skip(0, 4107), whole1(4107, 10, "")}},
		{"many bytes", filled(20000, 5), []api.Seg{skip(0, 20000)}},
	}
}

// model are, by the chapter's words and layer 5's Get alone, the parts of bytes, byte by byte.
func model(b []byte) []api.Seg {
	var l []api.Seg
	for at := 0; at < len(b); {
		f, size, e := frame.Get(slices.Clone(b[at:]))
		switch {
		case e == api.OK:
			l = append(l, api.Seg{From: at, N: size, Is: true, Frame: f})
			at += size
		case len(l) > 0 && !l[len(l)-1].Is:
			l[len(l)-1].N++
			at++
		default:
			l = append(l, api.Seg{From: at, N: 1})
			at++
		}
	}
	return l
}

// same tells whether two parts are the same; a payload without bytes may be nil.
func same(a, b api.Seg) bool {
	return a.From == b.From && a.N == b.N && a.Is == b.Is && a.Frame.Kind == b.Frame.Kind && bytes.Equal(a.Frame.Payload, b.Frame.Payload)
}

// told are parts, so that a failure can be read.
func told(l []api.Seg) string {
	s := fmt.Sprintf("%d parts:", len(l))
	for _, p := range l[:min(len(l), 20)] {
		s += fmt.Sprintf(" {%d %d %v %d %.20x}", p.From, p.N, p.Is, p.Frame.Kind, p.Frame.Payload)
	}
	return s
}

// checkParts holds Of, Frames and Skipped against the parts that are wanted.
func checkParts(t *testing.T, name string, b []byte, want []api.Seg) {
	t.Helper()
	before := slices.Clone(b)
	if l := Of(b); !slices.EqualFunc(l, want, same) {
		t.Errorf("%s: Of has %s; want %s", name, told(l), told(want))
	}
	var frames []api.Seg
	skipped := 0
	for _, part := range want {
		if part.Is {
			frames = append(frames, part)
		} else {
			skipped += part.N
		}
	}
	if l := Frames(b); !slices.EqualFunc(l, frames, same) {
		t.Errorf("%s: Frames has %s; want %s", name, told(l), told(frames))
	}
	if n := Skipped(b); n != skipped {
		t.Errorf("%s: Skipped = %d, want %d", name, n, skipped)
	}
	if !bytes.Equal(b, before) {
		t.Errorf("%s: what was handed in was changed", name)
	}
}

// checkAll holds P7.2 for bytes, with no other layer asked: parts stand one behind the other, have all bytes, and no two that are skipped stand side by side.
func checkAll(t *testing.T, name string, b []byte) {
	t.Helper()
	l := Of(b)
	at := 0
	for i, part := range l {
		if part.From != at || part.N < 1 || part.N > len(b)-at {
			t.Errorf("%s: part %d has %d bytes from %d on, behind %d of %d bytes", name, i, part.N, part.From, at, len(b))
			return
		}
		if i > 0 && !part.Is && !l[i-1].Is {
			t.Errorf("%s: parts %d and %d are both skipped", name, i-1, i)
		}
		if !part.Is && (part.Frame.Kind != 0 || part.Frame.Payload != nil) {
			t.Errorf("%s: part %d is skipped, and has a frame", name, i)
		}
		at += part.N
	}
	if at != len(b) {
		t.Errorf("%s: the parts have %d bytes of %d", name, at, len(b))
	}
	rest := 0
	for _, part := range Frames(b) {
		rest += part.N
	}
	if rest+Skipped(b) != len(b) {
		t.Errorf("%s: frames have %d bytes, and %d are skipped, of %d", name, rest, Skipped(b), len(b))
	}
}

// checkBack holds a frame's part against its bytes: put again, it is just these.
func checkBack(t *testing.T, name string, b []byte) {
	t.Helper()
	for i, part := range Frames(b) {
		again, e := frame.Put(part.Frame)
		if e != api.OK || !part.Is || !bytes.Equal(again, b[part.From:part.From+part.N]) {
			t.Errorf("%s: frame %d isn't that of its bytes: %s, %v", name, i, told([]api.Seg{part}), e)
		}
	}
}

// checkBytes holds all that is promised of bytes, their parts got from the model.
func checkBytes(t *testing.T, name string, b []byte) {
	t.Helper()
	checkParts(t, name, b, model(b))
	checkAll(t, name, b)
	checkBack(t, name, b)
}

func TestExample(t *testing.T) {
	l := Of([]byte("\x00\x00" + none1))
	if len(l) != 2 || l[0].From != 0 || l[0].N != 2 || l[0].Is || l[1].From != 2 || l[1].N != 10 || !l[1].Is {
		t.Errorf("the parts are %s", told(l))
	}
}

func TestParts(t *testing.T) {
	for _, s := range scenes() {
		checkParts(t, s.name, []byte(s.b), s.parts)
	}
}

func TestAllOfIt(t *testing.T) {
	for _, s := range scenes() {
		checkAll(t, s.name, []byte(s.b))
		checkBack(t, s.name, []byte(s.b))
	}
}

// The parts of the scenes, which are written by hand, are those of layer 5's Get.
func TestScenesAreRight(t *testing.T) {
	for _, s := range scenes() {
		if l := model([]byte(s.b)); !slices.EqualFunc(l, s.parts, same) {
			t.Errorf("%s: there are %s; by hand %s", s.name, told(l), told(s.parts))
		}
	}
}

// Each scene behind each other one: only the bytes that are skipped where the two meet become one part.
func TestScenesSideBySide(t *testing.T) {
	for _, a := range scenes() {
		for _, b := range scenes() {
			if len(a.b)+len(b.b) < 500 {
				checkBytes(t, a.name+", then "+b.name, []byte(a.b+b.b))
			}
		}
	}
}

// Nil is the same as no bytes: they have no part.
func TestNoBytes(t *testing.T) {
	for _, b := range [][]byte{nil, {}, []byte(hello)[:0]} {
		if l, frames, n := Of(b), Frames(b), Skipped(b); len(l) != 0 || len(frames) != 0 || n != 0 {
			t.Errorf("no bytes have %s, %s, %d skipped", told(l), told(frames), n)
		}
	}
}

// A frame that is cut off at the end is skipped, wherever it is cut off, with the bytes ahead of it in one part.
func TestCutOffAnywhere(t *testing.T) {
	for _, full := range []string{none1, one2, hello, whole(1, filled(130, 2))} {
		for size := 1; size < len(full); size++ {
			checkParts(t, "cut off", []byte(full[:size]), []api.Seg{skip(0, size)})
			checkParts(t, "cut off behind bytes", []byte("\x00\x01"+full[:size]), []api.Seg{skip(0, size+2)})
			checkParts(t, "cut off behind a frame", []byte(none2+full[:size]), []api.Seg{whole2(0, 10, ""), skip(10, size)})
		}
	}
}

// Bytes of several frames, some of them hurt or one within another, cut anywhere.
func TestCutAnywhere(t *testing.T) {
	b := "\x00\xc7" + hello + wounded(one2, 8) + mark + whole(2, none1+"\xc7") + wounded(whole(1, one2+hello), 4) + wounded(hello, 5) + none2 + "\xc7T"
	for cut := range len(b) + 1 {
		checkBytes(t, fmt.Sprintf("up to %d", cut), []byte(b[:cut]))
		checkBytes(t, fmt.Sprintf("from %d on", cut), []byte(b[cut:]))
	}
}

// Each byte hurt in turn: the frame that has it is skipped, the others stay.
func TestHurtAnywhere(t *testing.T) {
	b := none1 + hello + one2
	ends := []int{0, len(none1), len(none1 + hello), len(b)}
	for at := range len(b) {
		var want []api.Seg
		for i, part := range []api.Seg{whole1(0, 10, ""), whole2(10, 15, "hello"), whole2(25, 11, "a")} {
			if at >= ends[i] && at < ends[i+1] {
				part = skip(part.From, part.N)
			}
			want = append(want, part)
		}
		checkParts(t, fmt.Sprintf("hurt at %d", at), []byte(wounded(b, at)), want)
	}
}

// All short bytes of the mark's and one more, alone and around a frame.
func TestAllShortBytes(t *testing.T) {
	all := [][]byte{nil}
	for i := 0; len(all[i]) < 5; i++ {
		for _, c := range []byte(mark + "\x00") {
			all = append(all, append(slices.Clone(all[i]), c))
		}
	}
	for _, b := range all {
		checkBytes(t, "short bytes", b)
		if Skipped(b) != len(b) {
			t.Errorf("%x: %d are skipped", b, Skipped(b))
		}
		checkBytes(t, "short bytes around a frame", slices.Concat(b, []byte(one2), b))
		checkBytes(t, "short bytes within a frame", []byte(whole(2, string(b)+none1)))
	}
}

// pieces are what bytes are laid of: whole frames, hurt ones, ones cut off, others.
func pieces() []string {
	outer := whole(1, "x"+one2+"y"+none1)
	return []string{none1, hello, outer, wounded(outer, 32), hello[:9], outer[:20], mark, "\xc7", "\x00"}
}

// All bytes of four pieces, one behind the other.
func TestAllPieces(t *testing.T) {
	l := pieces()
	n := len(l)
	for i := range n * n * n * n {
		b := l[i%n] + l[i/n%n] + l[i/n/n%n] + l[i/n/n/n]
		checkBytes(t, fmt.Sprintf("pieces %d", i), []byte(b))
	}
}

func TestManyFrames(t *testing.T) {
	b, want := "", []api.Seg(nil)
	for i := range 60 {
		payload := filled(i*3, i)
		full := whole(2, payload)
		want = append(want, whole2(len(b), len(full), payload))
		b += full
		if i%3 > 0 {
			want = append(want, skip(len(b), i%3))
			b += filled(i%3, i)
		}
	}
	checkParts(t, "many frames", []byte(b), want)
	checkAll(t, "many frames", []byte(b))
}

// A part that is a frame is one that find has, and no frame begins within a part that is skipped.
func TestAsFindHas(t *testing.T) {
	for _, s := range scenes() {
		b := []byte(s.b)
		for _, part := range Of(b) {
			at, found := find.Next(b, part.From)
			if part.Is && (!found || at != part.From) {
				t.Errorf("%s: no frame begins at %d", s.name, part.From)
			}
			if !part.Is && found && at < part.From+part.N {
				t.Errorf("%s: a frame begins at %d, which is skipped", s.name, at)
			}
		}
	}
}

// What is in memory behind the end isn't read.
func TestNotBeyondTheEnd(t *testing.T) {
	room := []byte("\x00" + hello)
	for size := 1; size < len(room); size++ {
		checkParts(t, "room behind", room[:size], []api.Seg{skip(0, size)})
	}
}

// Whoever ranges over parts may leave at any of them, and is handed none from then on.
func TestPartsMayBeLeft(t *testing.T) {
	b := []byte("x" + none1 + one2 + "yz")
	all := Of(b)
	for most := 1; most <= len(all); most++ {
		var l []api.Seg
		for part := range parts(b) {
			l = append(l, part)
			if len(l) == most {
				break
			}
		}
		if !slices.EqualFunc(l, all[:most], same) {
			t.Errorf("left at %d: %s", most, told(l))
		}
	}
}

func TestLeavesWhatIsHandedIn(t *testing.T) {
	room := []byte("\x00" + hello + mark + "and more" + none1)
	before := slices.Clone(room)
	b := room[:20]
	for range 2 {
		for _, l := range [][]api.Seg{Of(b), Frames(b)} {
			_ = append(l, skip(0, 1))
		}
		Skipped(b)
	}
	if !bytes.Equal(room, before) {
		t.Errorf("what was handed in became %x", room)
	}
}

// checkNew holds what a call answers against R3: bytes that are written into later change nothing in it, and it is memory of its own.
func checkNew(t *testing.T, name string, call func([]byte) []api.Seg) {
	t.Helper()
	b := []byte("\x00" + hello + whole(1, none2) + "\x00" + one2)
	before := slices.Clone(b)
	want := model(slices.Clone(b))
	want = slices.DeleteFunc(want, func(part api.Seg) bool { return name == "Frames" && !part.Is })
	first, second := call(b), call(b)
	for i := range b {
		b[i] = 0xee
	}
	if !slices.EqualFunc(first, want, same) {
		t.Errorf("%s: what was answered became %s", name, told(first))
	}
	copy(b, before)
	for i := range first {
		payload := first[i].Frame.Payload
		_ = append(payload, "xxxxxxxxxxxxxxxxxxxx"...)
		for k := range payload {
			payload[k] = 'x'
		}
		first[i] = skip(-1, -1)
	}
	_ = append(first, skip(-2, -2))
	if !bytes.Equal(b, before) {
		t.Errorf("%s: what was answered is the memory that was handed in: %x", name, b)
	}
	if !slices.EqualFunc(second, want, same) || !slices.EqualFunc(call(b), want, same) {
		t.Errorf("%s: two answers share memory", name)
	}
}

func TestAnswersNewMemory(t *testing.T) {
	checkNew(t, "Of", Of)
	checkNew(t, "Frames", Frames)
}

// No two payloads of one answer share memory, nor does one end where the next one may be written into.
func TestPayloadsShareNothing(t *testing.T) {
	b := []byte(one2 + hello + one2)
	for i := range 3 {
		l := Frames(b)
		payload := l[i].Frame.Payload
		_ = append(payload, "xxxxxxxxxxxxxxxxxxxx"...)
		for k := range payload {
			payload[k] = 'x'
		}
		for k, want := range []string{"a", "hello", "a"} {
			if k != i && string(l[k].Frame.Payload) != want {
				t.Errorf("with payload %d written into, payload %d is %q", i, k, l[k].Frame.Payload)
			}
		}
	}
}

// Nothing is kept from call to call: what is answered hangs on the bytes as they are.
func TestKeepsNothing(t *testing.T) {
	b := []byte("\x00" + hello + none2)
	want := []api.Seg{skip(0, 1), whole2(1, 15, "hello"), whole2(16, 10, "")}
	checkParts(t, "at first", b, want)
	b[1]++
	checkParts(t, "with the first mark hurt", b, []api.Seg{skip(0, 16), whole2(16, 10, "")})
	b[1]--
	checkParts(t, "as at first", b, want)
}
