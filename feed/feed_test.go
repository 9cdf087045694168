package feed

import (
	"bytes"
	"fmt"
	"runtime"
	"slices"
	"testing"

	"tachograph/api"
	"tachograph/find"
	"tachograph/frame"
	"tachograph/segs"
)

// The bytes of some frames, by the chapter of layer 5, written out.
const (
	mark  = "\xc7TG\x01"
	none1 = mark + "\x01\x00\xbe\x23\xc2\x58"
	none2 = mark + "\x02\x00\x7d\x70\xef\x73"
	one2  = mark + "\x02\x01a\xf3\x6d\x6b\xdf"
	hello = mark + "\x02\x05hello\x7f\x0e\x0c\xaa"
)

// mostHeld is, by P8.3 and the chapter of layer 5, how many bytes a feed may hold: 4 of the mark, 1 of the kind, 2 of the length, 4096, and 4 of the sum, less 1.
const mostHeld = 4106

// whole are a frame's bytes.
func whole(kind int, payload string) string {
	b, e := frame.Put(api.Frame{Kind: kind, Payload: []byte(payload)})
	if e != api.OK {
		panic("no such frame")
	}
	return string(b)
}

// wounded are bytes the one of which at a place is another one.
func wounded(s string, at int) string {
	b := []byte(s)
	b[at] ^= 0x10
	return string(b)
}

// filled are bytes of a fixed pattern, another one for each seed, without the mark's first one: no frame may begin in them.
func filled(size, seed int) string {
	b := make([]byte, size)
	for i := range b {
		b[i] = byte(i*i*31 + i*seed*7 + seed*seed + i>>3)
		if b[i] == mark[0] {
			b[i]++
		}
	}
	return string(b)
}

// skip is the part of bytes that are skipped.
func skip(from, n int) api.Seg {
	return api.Seg{From: from, N: n}
}

// whole1 and whole2 are the parts of frames of the two kinds.
func whole1(from, n int, payload string) api.Seg {
	return api.Seg{From: from, N: n, Is: true, Frame: api.Frame{Kind: 1, Payload: []byte(payload)}}
}

func whole2(from, n int, payload string) api.Seg {
	return api.Seg{From: from, N: n, Is: true, Frame: api.Frame{Kind: 2, Payload: []byte(payload)}}
}

// same tells whether two parts are the same; a payload without bytes may be nil.
func same(a, b api.Seg) bool {
	return a.From == b.From && a.N == b.N && a.Is == b.Is && a.Frame.Kind == b.Frame.Kind && bytes.Equal(a.Frame.Payload, b.Frame.Payload)
}

// shown are parts, so that a failure can be read.
func shown(l []api.Seg) string {
	s := fmt.Sprintf("%d parts:", len(l))
	for _, p := range l[:min(len(l), 20)] {
		s += fmt.Sprintf(" {%d %d %v %d %.20x}", p.From, p.N, p.Is, p.Frame.Kind, p.Frame.Payload)
	}
	return s
}

// model are, by the chapter's words and layer 5's Get alone, the parts that are told once so many bytes were given, the feed not being closed, and how many bytes are held.
func model(given []byte) (told []api.Seg, held int) {
	next := 0
	for at := 0; at < len(given); {
		f, size, e := frame.Get(slices.Clone(given[at:]))
		if e == api.ErrShort {
			return told, len(given) - at
		}
		if e != api.OK {
			at++
			continue
		}
		if at > next {
			told = append(told, skip(next, at-next))
		}
		told = append(told, api.Seg{From: at, N: size, Is: true, Frame: f})
		at += size
		next = at
	}
	return told, 0
}

// player gives a feed bytes, and holds what it tells against what it should.
type player struct {
	*testing.T
	name  string
	f     *Feed
	total int
}

func newPlayer(t *testing.T, name string) *player {
	return &player{T: t, name: name, f: New()}
}

// after holds Held and Total against what they should be.
func (p *player) after(call string, held int) {
	p.Helper()
	for range 2 {
		if n := p.f.Held(); n != held {
			p.Errorf("%s: behind %s, Held = %d, want %d", p.name, call, n, held)
		}
		if n := p.f.Total(); n != p.total {
			p.Errorf("%s: behind %s, Total = %d, want %d", p.name, call, n, p.total)
		}
	}
}

// give holds a Give against the parts that should be told, and Held behind it.
func (p *player) give(chunk string, held int, want ...api.Seg) {
	p.Helper()
	l, e := p.f.Give([]byte(chunk))
	p.total += len(chunk)
	call := fmt.Sprintf("Give(%.20x, %d bytes) up to %d", chunk, len(chunk), p.total)
	if e != api.OK || !slices.EqualFunc(l, want, same) {
		p.Errorf("%s: %s = %s, %v, want %s", p.name, call, shown(l), e, shown(want))
	}
	p.after(call, held)
}

// close holds a Close against the parts that should be told; nothing is held behind it.
func (p *player) close(want ...api.Seg) {
	p.Helper()
	l, e := p.f.Close()
	if e != api.OK || !slices.EqualFunc(l, want, same) {
		p.Errorf("%s: Close = %s, %v, want %s", p.name, shown(l), e, shown(want))
	}
	p.after("Close", 0)
}

// closed holds all calls of a feed that is closed: they tell nothing, and change nothing.
func (p *player) closed() {
	p.Helper()
	for _, chunk := range [][]byte{nil, {}, {0}, []byte(none1), []byte(mark), []byte("x" + hello + "y")} {
		if l, e := p.f.Give(chunk); e != api.ErrArg || l != nil {
			p.Errorf("%s: Give(%x) of a feed that is closed = %s, %v", p.name, chunk, shown(l), e)
		}
		p.after("Give of one that is closed", 0)
		if l, e := p.f.Close(); e != api.ErrArg || l != nil {
			p.Errorf("%s: Close of a feed that is closed = %s, %v", p.name, shown(l), e)
		}
		p.after("Close of one that is closed", 0)
	}
}

// rest are those of all parts behind some that were told.
func rest(all, told []api.Seg) []api.Seg {
	return all[len(told):]
}

// play gives bytes in chunks that end at some places, and at the bytes' end, and holds each call against the model, and the last one against layer 7's parts.
func (p *player) play(b string, ends []int) {
	p.Helper()
	told, at := []api.Seg(nil), 0
	for _, end := range append(slices.Clone(ends), len(b)) {
		now, held := model([]byte(b[:end]))
		p.give(b[at:end], held, rest(now, told)...)
		told, at = now, end
	}
	p.close(rest(segs.Of([]byte(b)), told)...)
}

// together are all parts that are told of bytes, given in chunks of some sizes, in turn, round and round.
func together(t *testing.T, b []byte, sizes ...int) []api.Seg {
	t.Helper()
	f := New()
	var all []api.Seg
	for i := 0; len(b) > 0; i++ {
		size := min(sizes[i%len(sizes)], len(b))
		told, e := f.Give(b[:size])
		if e != api.OK {
			t.Fatalf("Give = %v", e)
		}
		all, b = append(all, told...), b[size:]
	}
	told, e := f.Close()
	if e != api.OK {
		t.Fatalf("Close = %v", e)
	}
	return append(all, told...)
}

// everyEnd are all places within bytes: chunks that end there have one byte each.
func everyEnd(size int) []int {
	var l []int
	for at := 1; at < size; at++ {
		l = append(l, at)
	}
	return l
}

// scene are bytes, and their parts, by hand.
type scene struct {
	name  string
	b     string
	parts []api.Seg
}

func scenes() []scene {
	return slices.Concat(bareScenes(), sideScenes(), withinScenes(), cutScenes())
}

// bareScenes have no frame.
func bareScenes() []scene {
	return []scene{
		{"no bytes", "", nil},
		{"a byte 0", "\x00", []api.Seg{skip(0, 1)}},
		{"no mark", filled(60, 1), []api.Seg{skip(0, 60)}},
		{"the mark backwards", "\x01GT\xc7\x00\x01", []api.Seg{skip(0, 6)}},
		{"a mark alone", mark, []api.Seg{skip(0, 4)}},
		{"a mark's first byte, again and again", "\xc7\xc7\xc7", []api.Seg{skip(0, 3)}},
		{"a mark's front, again and again", "\xc7T\xc7TG\xc7T", []api.Seg{skip(0, 7)}},
		{"a frame of another kind", mark + "\x03\x00\x00\x00\x00\x00", []api.Seg{skip(0, 10)}},
		{"a length with a longer writing", mark + "\x02\x81\x00a\xf3\x6d\x6b\xdf", []api.Seg{skip(0, 12)}},
		{"a length above the limit", mark + "\x02\x81\x20ab", []api.Seg{skip(0, 9)}},
		{"a length that is too long", mark + "\x02\xff\xff\xff\xff\xff\xff\xff\xff\xff\x02", []api.Seg{skip(0, 15)}},
		{"another sum", wounded(one2, 10), []api.Seg{skip(0, 11)}},
		{"another payload", wounded(hello, 8), []api.Seg{skip(0, 15)}},
		{"another mark", wounded(hello, 0), []api.Seg{skip(0, 15)}},
	}
}

// sideScenes have frames, and bytes beside them.
func sideScenes() []scene {
	return []scene{
		{"a frame alone", none1, []api.Seg{whole1(0, 10, "")}},
		{"a frame with a payload alone", hello, []api.Seg{whole2(0, 15, "hello")}},
		{"two bytes 0 ahead of a frame", "\x00\x00" + none1, []api.Seg{skip(0, 2), whole1(2, 10, "")}},
		{"a frame with bytes behind", one2 + "\x00\x01\x02", []api.Seg{whole2(0, 11, "a"), skip(11, 3)}},
		{"a frame behind its first bytes", mark + hello, []api.Seg{skip(0, 4), whole2(4, 15, "hello")}},
		{"a frame behind its mark's first byte", "\xc7" + none2, []api.Seg{skip(0, 1), whole2(1, 10, "")}},
		{"frames side by side", none1 + one2 + one2 + hello, []api.Seg{whole1(0, 10, ""), whole2(10, 11, "a"), whole2(21, 11, "a"), whole2(32, 15, "hello")}},
		{"a byte between frames", none1 + "x" + none1, []api.Seg{whole1(0, 10, ""), skip(10, 1), whole1(11, 10, "")}},
		{"frames with bytes between", "x" + none1 + "yz" + hello + "\xc7" + none2 + "wvu", []api.Seg{skip(0, 1), whole1(1, 10, ""), skip(11, 2), whole2(13, 15, "hello"), skip(28, 1), whole2(29, 10, ""), skip(39, 3)}},
		{"a hurt frame between frames", none1 + wounded(hello, 9) + none2, []api.Seg{whole1(0, 10, ""), skip(10, 15), whole2(25, 10, "")}},
		{"hurt frames in a row, and bytes", wounded(one2, 1) + "xy" + wounded(one2, 5) + wounded(one2, 10) + one2, []api.Seg{skip(0, 35), whole2(35, 11, "a")}},
	}
}

// withinScenes have frames within frames: what is within a part is no part of its own, what is within skipped bytes is one.
func withinScenes() []scene {
	two := "x" + one2 + "y" + none1 // 1, 11, 1, 10
	outer := whole(1, two)          // 6 ahead of them, 4 behind
	inner := whole(2, none1)        // 6, 10, 4
	nested := whole(1, "z"+inner)   // 6, 1, 20, 4
	return []scene{
		{"a frame within another one", inner, []api.Seg{whole2(0, 20, none1)}},
		{"two frames within one between others", none2 + outer + hello, []api.Seg{whole2(0, 10, ""), whole1(10, 33, two), whole2(43, 15, "hello")}},
		{"a frame within one within one", "\x00" + nested, []api.Seg{skip(0, 1), whole1(1, 31, "z"+inner)}},
		{"two frames within one of another sum", wounded(outer, 32), []api.Seg{skip(0, 7), whole2(7, 11, "a"), skip(18, 1), whole1(19, 10, ""), skip(29, 4)}},
		{"two frames within one of another kind", wounded(outer, 4), []api.Seg{skip(0, 7), whole2(7, 11, "a"), skip(18, 1), whole1(19, 10, ""), skip(29, 4)}},
		{"a frame within one within one of another sum", wounded(nested, 28), []api.Seg{skip(0, 7), whole2(7, 20, none1), skip(27, 4)}},
		{"a frame within two of other sums", wounded(wounded(nested, 28), 24), []api.Seg{skip(0, 13), whole1(13, 10, ""), skip(23, 8)}},
		{"a frame within one that is told to be longer", mark + "\x01\x06" + none1 + "zz", []api.Seg{skip(0, 6), whole1(6, 10, ""), skip(16, 2)}},
		{"a frame whose sum ends within another one", mark + "\x01\x08" + none1 + none2, []api.Seg{skip(0, 6), whole1(6, 10, ""), whole2(16, 10, "")}},
	}
}

// cutScenes have frames that are cut off at the end.
func cutScenes() []scene {
	outer := whole(1, "x"+one2+"y"+none1)
	return []scene{
		{"a frame cut off", hello[:14], []api.Seg{skip(0, 14)}},
		{"a frame cut off behind bytes", "\x00\x00" + hello[:3], []api.Seg{skip(0, 5)}},
		{"a frame cut off behind a frame", none1 + one2[:8], []api.Seg{whole1(0, 10, ""), skip(10, 8)}},
		{"a frame cut off behind a frame and bytes", none1 + "xyz" + one2[:10], []api.Seg{whole1(0, 10, ""), skip(10, 13)}},
		{"two frames within one that is cut off", outer[:32], []api.Seg{skip(0, 7), whole2(7, 11, "a"), skip(18, 1), whole1(19, 10, ""), skip(29, 3)}},
		{"frames within one that is cut off behind them", outer[:29], []api.Seg{skip(0, 7), whole2(7, 11, "a"), skip(18, 1), whole1(19, 10, "")}},
		{"a frame cut off within one that is cut off", outer[:28], []api.Seg{skip(0, 7), whole2(7, 11, "a"), skip(18, 10)}},
		{"a length that isn't all there", mark + "\x01\xff", []api.Seg{skip(0, 6)}},
		{"a frame behind a length that isn't all there", mark + "\x01\x80\x20" + none1 + "zz", []api.Seg{skip(0, 7), whole1(7, 10, ""), skip(17, 2)}},
	}
}

// longScenes have frames that are as long as they may be.
func longScenes() []scene {
	most := filled(4096, 3)
	long := whole(2, most)
	return []scene{
		{"a longest frame", long, []api.Seg{whole2(0, 4107, most)}},
		{"a longest frame between others", "\x00" + none1 + long + none2 + "\x00", []api.Seg{skip(0, 1), whole1(1, 10, ""), whole2(11, 4107, most), whole2(4118, 10, ""), skip(4128, 1)}},
		{"a longest frame, cut off", long[:4106], []api.Seg{skip(0, 4106)}},
		{"a longest frame, hurt at its end", wounded(long, 4106) + none1, []api.Seg{skip(0, 4107), whole1(4107, 10, "")}},
		{"many bytes", filled(20000, 5), []api.Seg{skip(0, 20000)}},
	}
}

// Of a frame, given byte by byte, nothing is told ahead of its last byte.
func TestExample(t *testing.T) {
	p := newPlayer(t, "the example")
	for i := range 14 {
		p.give(hello[i:i+1], i+1)
	}
	p.give(hello[14:], 0, whole2(0, 15, "hello"))
	p.close()
	p.closed()
}

func TestNothingGiven(t *testing.T) {
	p := newPlayer(t, "nothing given")
	p.after("New", 0)
	p.close()
	p.closed()
}

// Nil, and empty bytes, tell nothing and change nothing, wherever they are given.
func TestEmptyChunks(t *testing.T) {
	p := newPlayer(t, "empty chunks")
	empty := func(held int) {
		t.Helper()
		for _, chunk := range [][]byte{nil, {}, []byte(hello)[:0], nil} {
			if l, e := p.f.Give(chunk); e != api.OK || len(l) != 0 {
				t.Errorf("Give of no bytes = %s, %v", shown(l), e)
			}
			p.after("Give of no bytes", held)
		}
	}
	empty(0)
	p.give("x", 0)
	empty(0)
	p.give(one2[:3], 3)
	empty(3)
	p.give(one2[3:9], 9)
	empty(9)
	p.give(one2[9:], 0, skip(0, 1), whole2(1, 11, "a"))
	empty(0)
	p.give("yz", 0)
	empty(0)
	p.give(mark, 4)
	empty(4)
	p.close(skip(12, 6))
	p.closed()
}

func TestNoFrame(t *testing.T) {
	for _, s := range bareScenes() {
		p := newPlayer(t, s.name)
		for i := range len(s.b) {
			_, held := model([]byte(s.b[:i+1]))
			p.give(s.b[i:i+1], held)
		}
		p.close(s.parts...)
		p.closed()
	}
	p := newPlayer(t, "no mark, by hand")
	p.give("abc", 0)
	p.give("\xc7", 1)
	p.give("TG", 3)
	p.give("H", 0)
	p.give("\xc7\xc7", 1)
	p.give("T\xc7TG\x01", 4)
	p.give("\x02\xff", 6)
	p.give("\xff\xff\xff\xff\xff\xff\xff\xff", 14)
	p.give("\x02", 0)
	p.close(skip(0, 25))
}

// A frame alone: in one chunk, and cut at each place, with what is ahead of it.
func TestFrameCutAtEachPlace(t *testing.T) {
	for _, c := range []struct {
		full string
		part api.Seg
	}{
		{none1, whole1(0, 10, "")},
		{one2, whole2(0, 11, "a")},
		{hello, whole2(0, 15, "hello")},
		{whole(1, filled(130, 2)), whole1(0, 141, filled(130, 2))},
		{whole(2, none1+mark), whole2(0, 24, none1+mark)}, // cut off, it is skipped, but for what is within
	} {
		p := newPlayer(t, "in one chunk")
		p.give(c.full, 0, c.part)
		p.close()
		behind := c.part
		behind.From = 3
		for cut := 1; cut < len(c.full); cut++ {
			p := newPlayer(t, fmt.Sprintf("cut at %d", cut))
			p.give(c.full[:cut], cut)
			p.give(c.full[cut:], 0, c.part)
			p.close()
			p = newPlayer(t, fmt.Sprintf("behind bytes, cut at %d", cut))
			p.give("abc"+c.full[:cut], cut)
			p.give(c.full[cut:]+"de", 0, skip(0, 3), behind)
			p.close(skip(3+len(c.full), 2))
			p = newPlayer(t, fmt.Sprintf("cut off at %d", cut))
			p.give("abc", 0)
			p.give(c.full[:cut], cut)
			p.close(segs.Of([]byte("abc" + c.full[:cut]))...)
			p.closed()
		}
	}
}

func TestFramesSideBySide(t *testing.T) {
	p := newPlayer(t, "side by side")
	p.give(none1+one2+one2, 0, whole1(0, 10, ""), whole2(10, 11, "a"), whole2(21, 11, "a"))
	p.give(hello, 0, whole2(32, 15, "hello"))
	p.give(none1[:4], 4)
	p.give(none1[4:]+none2+hello[:7], 7, whole1(47, 10, ""), whole2(57, 10, ""))
	p.give(hello[7:]+none2+"\xc7", 1, whole2(67, 15, "hello"), whole2(82, 10, ""))
	p.give(none1[1:], 0, whole1(92, 10, ""))
	p.close()
	p.closed()
}

// What is skipped is told with the frame behind it, as one part, and by Close alone at the end.
func TestSkippedBytes(t *testing.T) {
	p := newPlayer(t, "skipped bytes")
	p.give("ab", 0)
	p.give("c", 0)
	p.give("d"+none1[:5], 5)
	p.give(none1[5:], 0, skip(0, 4), whole1(4, 10, ""))
	p.give("efg", 0)
	p.give("\xc7TH"+one2+"ijk", 0, skip(14, 6), whole2(20, 11, "a"))
	p.give("lm"+none2+"n"+none2+"o", 0, skip(31, 5), whole2(36, 10, ""), skip(46, 1), whole2(47, 10, ""))
	p.give("pq", 0)
	p.give("\xc7", 1)
	p.give("r", 0)
	p.give(filled(5000, 1), 0)
	p.give(mark, 4)
	p.close(skip(57, 5009))
	p.closed()
}

// What is skipped behind frames isn't told ahead of Close, however many bytes and calls there are.
func TestSkippedAtTheEnd(t *testing.T) {
	p := newPlayer(t, "skipped at the end")
	p.give(none1, 0, whole1(0, 10, ""))
	for i := range 300 {
		p.give(filled(i, i), 0)
	}
	p.close(skip(10, 299*150))
}

// A frame within another one's payload is no part of its own.
func TestFrameWithin(t *testing.T) {
	outer := whole(1, "x"+one2+"y"+none1)
	want := whole1(0, 33, "x"+one2+"y"+none1)
	p := newPlayer(t, "at once")
	p.give(outer, 0, want)
	p.close()
	p = newPlayer(t, "byte by byte")
	for i := range 32 {
		p.give(outer[i:i+1], i+1)
	}
	p.give(outer[32:], 0, want)
	p.close()
	p = newPlayer(t, "with frames around, cut behind the first one within")
	want.From = 10
	p.give(none2+outer[:18], 18, whole2(0, 10, ""))
	p.give(outer[18:]+none2, 0, want, whole2(43, 10, ""))
	p.close()
}

// A frame within one of another sum is told once that sum is there, and not before.
func TestFrameWithinAHurtOne(t *testing.T) {
	hurt := wounded(whole(1, "x"+one2+"y"+none1), 32)
	first := []api.Seg{skip(0, 7), whole2(7, 11, "a"), skip(18, 1), whole1(19, 10, "")}
	p := newPlayer(t, "byte by byte")
	for i := range 32 {
		p.give(hurt[i:i+1], i+1)
	}
	p.give(hurt[32:], 0, first...)
	p.close(skip(29, 4))
	p = newPlayer(t, "cut behind the frames within, another one behind")
	p.give(hurt[:29], 29)
	p.give(hurt[29:]+hello, 0, append(first, skip(29, 4), whole2(33, 15, "hello"))...)
	p.close()
	p = newPlayer(t, "of another kind: told with its last byte, as nothing holds it up")
	p.give(wounded(hurt, 4)[:17], 10)
	p.give(hurt[17:18], 0, skip(0, 7), whole2(7, 11, "a"))
	p.give(hurt[18:28], 9)
	p.give(hurt[28:29], 0, skip(18, 1), whole1(19, 10, ""))
	p.close()
}

// A frame within one that is cut off is told by Close.
func TestFrameWithinOneThatIsCutOff(t *testing.T) {
	outer := whole(1, "x"+one2+"y"+none1)
	p := newPlayer(t, "with its sum cut off")
	p.give("ab"+outer[:20], 20)
	p.give(outer[20:32], 32)
	p.close(skip(0, 9), whole2(9, 11, "a"), skip(20, 1), whole1(21, 10, ""), skip(31, 3))
	p.closed()
	p = newPlayer(t, "with the second one within cut off, too")
	p.give(outer[:28], 28)
	p.close(skip(0, 7), whole2(7, 11, "a"), skip(18, 10))
	p = newPlayer(t, "just behind the frame within")
	p.give(outer[:18], 18)
	p.close(skip(0, 7), whole2(7, 11, "a"))
}

// A head that asks for more bytes than there are holds up the frames behind it, side by side.
func TestHeldUp(t *testing.T) {
	head := mark + "\x01\x20" // and 36 more
	p := newPlayer(t, "a head")
	p.give("x"+head, 6)
	p.give(none1, 16)
	p.give(none2+one2, 37)
	p.give("abcd", 41)
	p.give("\x00", 0, skip(0, 7), whole1(7, 10, ""), whole2(17, 10, ""), whole2(27, 11, "a"))
	p.close(skip(38, 5))
	p = newPlayer(t, "a head within a head")
	p.give(head+mark+"\x02\x40"+none1, 22)
	p.give(filled(19, 1), 41)
	p.give("\x00", 36)
	p.give(none2+filled(27, 2), 73)
	p.give("\x00", 0, skip(0, 12), whole1(12, 10, ""), skip(22, 20), whole2(42, 10, ""))
	p.give("x", 0)
	p.close(skip(52, 29))
	p = newPlayer(t, "a head that holds up, behind one whose frame is whole")
	p.give(none1+head+none2, 16, whole1(0, 10, ""))
	p.close(skip(10, 6), whole2(16, 10, ""))
}

// By layer 5's words, a sum that isn't all there is short, also where what there is of it is another one: the frame may yet begin, and holds up what is within.
func TestHeldUpByAWrongSum(t *testing.T) {
	outer := whole(2, none1)
	hurt := wounded(outer, 16)
	p := newPlayer(t, "the sum's first byte is another one")
	p.give(hurt[:17], 17)
	p.give(hurt[17:19], 19)
	p.give(hurt[19:], 0, skip(0, 6), whole1(6, 10, ""))
	p.close(skip(16, 4))
	p = newPlayer(t, "a length too long that isn't all there")
	p.give(mark+"\x01\xff\xff\xff\xff\xff\xff\xff\xff", 13)
	p.give("\xff", 14)
	p.give("\x01"+none1, 0, skip(0, 15), whole1(15, 10, ""))
	p.close()
}

// From counts from the first byte that was given, however far it is back.
func TestFromCountsFromTheFirstByte(t *testing.T) {
	p := newPlayer(t, "far")
	at := 0
	for i := range 200 {
		gap := filled(i*7, i)
		p.give(gap, 0)
		want := []api.Seg{whole2(at+len(gap), 11, "a")}
		if len(gap) > 0 {
			want = append([]api.Seg{skip(at, len(gap))}, want...)
		}
		p.give(one2[:i%11], i%11)
		p.give(one2[i%11:], 0, want...)
		at += len(gap) + 11
	}
	p.give("xy", 0)
	p.close(skip(at, 2))
}

func TestScenesAtOnce(t *testing.T) {
	for _, s := range slices.Concat(scenes(), longScenes()) {
		p := newPlayer(t, s.name)
		told, held := model([]byte(s.b))
		if !slices.EqualFunc(told, s.parts[:len(told)], same) {
			t.Errorf("%s: the model tells %s of %s", s.name, shown(told), shown(s.parts))
		}
		p.give(s.b, held, told...)
		p.close(rest(s.parts, told)...)
		p.closed()
	}
}

// Each scene byte by byte, cut at each place, and cut at each two.
func TestScenesCut(t *testing.T) {
	for _, s := range scenes() {
		newPlayer(t, s.name+", byte by byte").play(s.b, everyEnd(len(s.b)))
		for i := range len(s.b) + 1 {
			newPlayer(t, fmt.Sprintf("%s, cut at %d", s.name, i)).play(s.b, []int{i})
			for k := i; k <= len(s.b); k++ {
				newPlayer(t, fmt.Sprintf("%s, cut at %d and %d", s.name, i, k)).play(s.b, []int{i, k})
			}
		}
	}
}

// sizesOfChunks are sizes, in turn, of many sorts.
func sizesOfChunks() [][]int {
	l := [][]int{{1 << 20}, {0, 1}, {1, 2, 3}, {10, 1}, {1, 10}, {0, 0, 7, 4}, {4106, 1}, {4107}, {4106}, {5, 4107, 1}, {100, 3}, {1000}}
	for size := 1; size <= 40; size++ {
		l = append(l, []int{size})
	}
	return l
}

// All that is told, put together, is what layer 7's Of answers of all that was given.
func TestHoweverChunked(t *testing.T) {
	for _, s := range slices.Concat(scenes(), longScenes()) {
		b := []byte(s.b)
		if l := segs.Of(b); !slices.EqualFunc(l, s.parts, same) {
			t.Errorf("%s: layer 7 has %s, by hand %s", s.name, shown(l), shown(s.parts))
		}
		for _, sizes := range sizesOfChunks() {
			if l := together(t, b, sizes...); !slices.EqualFunc(l, s.parts, same) {
				t.Errorf("%s, in chunks of %v: %s, want %s", s.name, sizes, shown(l), shown(s.parts))
			}
		}
	}
}

// All scenes, one behind the other, some of them hurt by what is behind.
func TestHoweverChunkedAllScenes(t *testing.T) {
	b := ""
	for _, s := range slices.Concat(scenes(), longScenes(), scenes()) {
		b += s.b
	}
	want := segs.Of([]byte(b))
	for _, sizes := range sizesOfChunks() {
		if l := together(t, []byte(b), sizes...); !slices.EqualFunc(l, want, same) {
			t.Errorf("in chunks of %v: %s, want %s", sizes, shown(l), shown(want))
		}
	}
}

// pieces are what bytes are laid of: whole frames, hurt ones, ones cut off, others.
func pieces() []string {
	outer := whole(1, "x"+one2+"y"+none1)
	return []string{none1, hello, outer, wounded(outer, 32), hello[:9], outer[:20], mark, "\xc7", "\x00"}
}

// All bytes of four pieces, one piece a chunk, and in other chunks.
func TestAllPieces(t *testing.T) {
	l := pieces()
	n := len(l)
	for i := range n * n * n * n {
		four := []string{l[i%n], l[i/n%n], l[i/n/n%n], l[i/n/n/n]}
		b, ends := "", []int(nil)
		for _, piece := range four {
			b += piece
			ends = append(ends, len(b))
		}
		newPlayer(t, fmt.Sprintf("pieces %d", i)).play(b, ends)
		want := segs.Of([]byte(b))
		for _, size := range []int{1, 1 + i%17} {
			if got := together(t, []byte(b), size); !slices.EqualFunc(got, want, same) {
				t.Errorf("pieces %d, in chunks of %d: %s, want %s", i, size, shown(got), shown(want))
			}
		}
	}
}

// sure tells, by the chapter's last words on telling, whether a frame that is a part of all bytes is told once so many of them were given: all of its own are there, and ahead of it stands no byte, in no frame that is a part, at which a frame may yet begin.
func sure(part api.Seg, parts []api.Seg, given []byte) bool {
	if part.From+part.N > len(given) {
		return false
	}
	for _, ahead := range parts {
		for at := ahead.From; !ahead.Is && at < min(ahead.From+ahead.N, part.From); at++ {
			if _, _, e := find.At(given, at); e == api.ErrShort {
				return false
			}
		}
	}
	return true
}

// A frame that is a part is told by the first call behind which it is sure, with what is skipped ahead of it: never later, never sooner.
func TestToldAsSoonAsSure(t *testing.T) {
	for _, s := range scenes() {
		b, f := []byte(s.b), New()
		told := 0
		for end := 1; end <= len(b); end++ {
			l, e := f.Give(b[end-1 : end])
			told += len(l)
			if e != api.OK || len(l) > 0 && !l[len(l)-1].Is {
				t.Errorf("%s: at %d there are told %s, %v", s.name, end, shown(l), e)
			}
			for i, part := range s.parts {
				if part.Is && sure(part, s.parts, b[:end]) != (i < told) {
					t.Errorf("%s: with %d bytes given, %d parts are told, and part %d is sure: %v", s.name, end, told, i, i >= told)
				}
			}
		}
	}
}

// What is told stays, whatever comes behind: it is the front of the parts of all bytes.
func TestToldStays(t *testing.T) {
	behinds := []string{"", mark, none1, none2, one2, hello, whole(2, none1), filled(50, 4), string(make([]byte, 50)), "\xc7", "\xff\xff\xff\xff\xff"}
	for _, s := range scenes() {
		for cut := range len(s.b) + 1 {
			f := New()
			told, _ := f.Give([]byte(s.b[:cut]))
			for _, behind := range behinds {
				all := segs.Of([]byte(s.b[:cut] + behind))
				if len(all) < len(told) || !slices.EqualFunc(told, all[:len(told)], same) {
					t.Errorf("%s: of %d bytes there are told %s; with %x behind there are %s", s.name, cut, shown(told), behind, shown(all))
				}
			}
		}
	}
}

// A feed never holds more bytes than the longest frame has less 1, and it does hold that many.
func TestNotMuch(t *testing.T) {
	long := whole(2, filled(4096, 3))
	p := newPlayer(t, "a longest frame but its last byte")
	p.give("x"+long[:4106], mostHeld)
	p.give(long[4106:], 0, skip(0, 1), whole2(1, 4107, filled(4096, 3)))
	p.give(long[:4106], mostHeld)
	p.give("\x00", 0)
	p.close(skip(4108, 4107))
	if size := frame.Size(api.MaxPayload); size != mostHeld+1 {
		t.Errorf("the longest frame has %d bytes", size)
	}
	head := mark + "\x02\x80\x20"
	many := ""
	for range 1500 {
		many += head
	}
	for name, b := range map[string]string{
		"a longest frame, and others":       long + none1 + long + long + "x" + wounded(long, 4106) + long,
		"heads of longest frames":           many,
		"heads, and longest frames":         many[:700] + long + many[:21] + long[:4100] + many,
		"a mark's first byte":               string(bytes.Repeat([]byte{0xc7}, 10000)),
		"marks":                             string(bytes.Repeat([]byte(mark), 3000)),
		"a length above the limit":          string(bytes.Repeat([]byte(mark+"\x02\x81\x20"), 1500)),
		"a length too long, not all there":  string(bytes.Repeat([]byte(mark+"\x01\xff\xff\xff\xff\xff\xff\xff\xff\xff"), 600)),
		"a head, and frames within":         head + string(bytes.Repeat([]byte(hello), 600)),
		"bytes in which no frame may begin": filled(20000, 2),
	} {
		checkMost(t, name, b)
	}
}

// checkMost gives bytes in chunks of many sizes, and holds P8.3 behind each.
func checkMost(t *testing.T, name, b string) {
	t.Helper()
	for _, size := range []int{1, 13, 1000, 4106, 4107, 9001} {
		f := New()
		for chunk := range slices.Chunk([]byte(b), size) {
			f.Give(chunk)
			if held := f.Held(); held > mostHeld || held != len(f.held) || held > f.Total() {
				t.Fatalf("%s, in chunks of %d: at %d there are %d bytes held", name, size, f.Total(), held)
			}
		}
		if f.Total() != len(b) {
			t.Errorf("%s, in chunks of %d: Total = %d, want %d", name, size, f.Total(), len(b))
		}
	}
}

// No more memory is kept than what is held needs: no long chunk stays for the sake of its end, and what was held is cleared.
func TestKeepsLittleMemory(t *testing.T) {
	f := New()
	for range 5 {
		f.Give([]byte(filled(1<<20, 1) + hello[:14]))
		if f.Held() != 14 || cap(f.held) > 2*mostHeld {
			t.Errorf("with %d bytes held there is memory for %d", f.Held(), cap(f.held))
		}
	}
	f.Give([]byte(hello[14:]))
	set := func(c byte) bool { return c != 0 }
	if left := f.held[:cap(f.held)]; f.Held() != 0 || slices.ContainsFunc(left, set) {
		t.Errorf("with %d bytes held there are left %x", f.Held(), left)
	}
	f.Give([]byte(hello[:14]))
	f.Close()
	if left := f.held[:cap(f.held)]; f.Held() != 0 || slices.ContainsFunc(left, set) {
		t.Errorf("once it is closed, with %d bytes held, there are left %x", f.Held(), left)
	}
}

// heap is how many bytes of memory there are that something still has.
func heap() uint64 {
	var m runtime.MemStats
	runtime.GC()
	runtime.ReadMemStats(&m)
	return m.HeapAlloc
}

// Feeds that hold a long chunk's end keep the memory of that end alone.
func TestLongChunksAreNotKept(t *testing.T) {
	chunk := []byte(filled(1<<20, 1) + mark)
	feeds := make([]*Feed, 8)
	before := heap()
	for i := range feeds {
		feeds[i] = New()
		feeds[i].Give(chunk)
	}
	if after := heap(); after > before+1<<20 {
		t.Errorf("8 feeds that hold 4 bytes each keep %d", after-before)
	}
	for _, f := range feeds {
		if f.Held() != 4 || f.Total() != len(chunk) {
			t.Errorf("Held = %d, Total = %d", f.Held(), f.Total())
		}
	}
}

// All orders of six calls, of some that give a chunk, and of Close.
func TestEveryOrderOfCalls(t *testing.T) {
	chunks := []string{"", "\xc7", none1[1:], hello, "x"}
	calls := len(chunks) + 1
	for i := range calls * calls * calls * calls * calls * calls {
		p := newPlayer(t, fmt.Sprintf("calls %d", i))
		given, told, closed := "", []api.Seg(nil), false
		for order := i; order > 0; order /= calls {
			which := order % calls
			switch {
			case closed:
				p.closed()
				order = 0
			case which == len(chunks):
				p.close(rest(segs.Of([]byte(given)), told)...)
				closed = true
			default:
				given += chunks[which]
				now, held := model([]byte(given))
				p.give(chunks[which], held, rest(now, told)...)
				told = now
			}
		}
	}
}

// Two feeds know nothing of each other.
func TestFeedsApart(t *testing.T) {
	a, b := newPlayer(t, "one feed"), newPlayer(t, "another feed")
	a.give("x"+hello[:7], 7)
	b.give(none1[:3], 3)
	a.give(hello[7:9], 9)
	b.give(none1[3:], 0, whole1(0, 10, ""))
	b.give(mark, 4)
	b.close(skip(10, 4))
	a.give(hello[9:], 0, skip(0, 1), whole2(1, 15, "hello"))
	b.closed()
	a.give(none2, 0, whole2(16, 10, ""))
	a.close()
}

// What was handed in stays as it was, also where there is room behind it.
func TestLeavesWhatIsHandedIn(t *testing.T) {
	b := []byte("\x00" + hello + "ab" + wounded(whole(1, one2), 20) + none2 + mark + "\x01")
	for _, size := range []int{1, 2, 5, 14, 16, len(b)} {
		room := append(slices.Clone(b), "and more"...)
		before := slices.Clone(room)
		f := New()
		for from := 0; from < len(b); from += size {
			f.Give(room[from:min(from+size, len(b))])
			if !bytes.Equal(room, before) {
				t.Fatalf("in chunks of %d: what was handed in became %x", size, room)
			}
		}
		f.Close()
		f.Give(room)
		if !bytes.Equal(room, before) {
			t.Errorf("in chunks of %d: what was handed in became %x", size, room)
		}
	}
}

// What is written into a chunk later, or into the room behind it, changes nothing.
func TestChunkWrittenIntoLater(t *testing.T) {
	b := "x" + hello + "y" + wounded(whole(1, one2+none1), 29) + none2 + mark + "\x01\x05" + none1[:9]
	want := segs.Of([]byte(b))
	for size := 1; size <= len(b); size++ {
		f, room := New(), make([]byte, size, size+50)
		var all []api.Seg
		for from := 0; from < len(b); from += size {
			n := copy(room, b[from:])
			told, _ := f.Give(room[:n])
			all = append(all, told...)
			for i := range room[:cap(room)] {
				room[:cap(room)][i] = 0xee
			}
		}
		told, _ := f.Close()
		if all = append(all, told...); !slices.EqualFunc(all, want, same) {
			t.Errorf("in chunks of %d: %s, want %s", size, shown(all), shown(want))
		}
	}
}

// copied are parts in memory of their own.
func copied(l []api.Seg) []api.Seg {
	l = slices.Clone(l)
	for i := range l {
		l[i].Frame.Payload = slices.Clone(l[i].Frame.Payload)
	}
	return l
}

// What is told isn't written over by later calls.
func TestToldIsNotWrittenOver(t *testing.T) {
	long := whole(2, filled(4000, 1))
	b := "x" + hello + one2 + "y" + long + wounded(whole(1, hello+one2), 35) + whole(1, filled(30, 2)) + none2 + one2 + long + hello + one2[:7]
	for _, size := range []int{1, 3, 10, 15, 26, 27, 40, 4000, 5000, len(b)} {
		f := New()
		var all, before [][]api.Seg
		keep := func(told []api.Seg) {
			all, before = append(all, told), append(before, copied(told))
		}
		for chunk := range slices.Chunk([]byte(b), size) {
			told, _ := f.Give(chunk)
			keep(told)
		}
		told, _ := f.Close()
		keep(told)
		f.Give([]byte(hello))
		for i := range all {
			if !slices.EqualFunc(all[i], before[i], same) {
				t.Errorf("in chunks of %d: what call %d told, %s, became %s", size, i, shown(before[i]), shown(all[i]))
			}
		}
	}
}

// Whoever writes into what was told, or puts something behind it, changes nothing that is told later, nor anything else that was told.
func TestWritesIntoWhatWasTold(t *testing.T) {
	b := "x" + hello + one2 + "y" + whole(1, filled(300, 1)) + wounded(whole(1, hello+one2), 35) + none2 + one2 + hello + one2[:7]
	want := segs.Of([]byte(b))
	for size := 1; size <= len(b); size++ {
		chunks := []byte(b)
		f, from := New(), 0
		spoil := func(told []api.Seg) {
			for i := range told {
				if part := want[from]; !same(told[i], part) {
					t.Errorf("in chunks of %d: there is told %s, want %s", size, shown(told[i:i+1]), shown([]api.Seg{part}))
				}
				payload := told[i].Frame.Payload
				_ = append(payload, "xxxxxxxxxxxxxxxxxxxxxxxxxxxxxx"...)
				for k := range payload {
					payload[k] = 'x'
				}
				told[i] = skip(-1, -1)
				from++
			}
			_ = append(told, skip(-2, -2))
		}
		for chunk := range slices.Chunk(chunks, size) {
			told, _ := f.Give(chunk)
			spoil(told)
		}
		told, _ := f.Close()
		spoil(told)
		if from != len(want) || string(chunks) != b {
			t.Errorf("in chunks of %d: %d parts are told of %d; what was handed in became %x", size, from, len(want), chunks)
		}
	}
}

// A part that is skipped has the zero frame.
func TestSkippedHasNoFrame(t *testing.T) {
	for _, s := range scenes() {
		for _, part := range together(t, []byte(s.b), 3) {
			if !part.Is && (part.Frame.Kind != 0 || part.Frame.Payload != nil) {
				t.Errorf("%s: %s is skipped, and has a frame", s.name, shown([]api.Seg{part}))
			}
		}
	}
}
