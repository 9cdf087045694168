package frame

import (
	"bytes"
	"encoding/binary"
	"hash/crc32"
	"math"
	"slices"
	"testing"

	"tachograph/api"
)

// theMark is the chapter's, written out once more.
var theMark = []byte{199, 84, 71, 1}

// filled are size bytes of a fixed pattern, another one for each seed.
func filled(size, seed int) []byte {
	b := make([]byte, size)
	for i := range b {
		b[i] = byte(i*i*31 + i*seed*7 + seed*seed + i>>3)
	}
	return b
}

// sizes are those of payloads at the edges and between.
func sizes() []int {
	return []int{0, 1, 2, 5, 10, 100, 126, 127, 128, 129, 255, 256, 4000, 4095, 4096}
}

// number are a number's bytes, by the library.
func number(n uint64) []byte { return binary.AppendUvarint(nil, n) }

// body are the bytes that a frame's sum is of.
func body(kind byte, length, payload []byte) []byte {
	return slices.Concat([]byte{kind}, length, payload)
}

// summed are bytes behind a mark, with the sum of them behind, whatever they are.
func summed(body []byte) []byte {
	return binary.LittleEndian.AppendUint32(slices.Concat(theMark, body), crc32.ChecksumIEEE(body))
}

// whole are the bytes of a frame, by the chapter's words.
func whole(kind byte, payload []byte) []byte {
	return summed(body(kind, number(uint64(len(payload))), payload))
}

// model is the chapter's Get, read from the front without a cursor.
func model(b []byte) (api.Frame, int, api.Errno) {
	for i, c := range theMark {
		if i == len(b) {
			return api.Frame{}, 0, api.ErrShort
		}
		if b[i] != c {
			return api.Frame{}, 0, api.ErrForm
		}
	}
	if len(b) == 4 {
		return api.Frame{}, 0, api.ErrShort
	}
	if b[4] != 1 && b[4] != 2 {
		return api.Frame{}, 0, api.ErrForm
	}
	n, size, e := modelNumber(b[5:])
	if e != api.OK {
		return api.Frame{}, 0, e
	}
	if n > 4096 {
		return api.Frame{}, 0, api.ErrLimit
	}
	from := 5 + size
	to := from + int(n)
	if len(b) < to+4 {
		return api.Frame{}, 0, api.ErrShort
	}
	if binary.LittleEndian.Uint32(b[to:]) != crc32.ChecksumIEEE(b[4:to]) {
		return api.Frame{}, 0, api.ErrSum
	}
	return api.Frame{Kind: int(b[4]), Payload: b[from:to]}, to + 4, api.OK
}

// modelNumber is a number's reading by the library, with layer 1's errors.
func modelNumber(b []byte) (uint64, int, api.Errno) {
	n, size := binary.Uvarint(b)
	switch {
	case size == 0 && len(b) >= 10 || size < 0:
		return 0, 0, api.ErrLong
	case size == 0:
		return 0, 0, api.ErrShort
	case size != len(number(n)):
		return 0, 0, api.ErrForm
	}
	return n, size, api.OK
}

// sameAsModel fails if Get doesn't answer as the chapter says, or changes b.
func sameAsModel(t *testing.T, b []byte) {
	t.Helper()
	before := slices.Clone(b)
	want, wantSize, wantE := model(before)
	f, size, e := Get(b)
	if f.Kind != want.Kind || !bytes.Equal(f.Payload, want.Payload) || size != wantSize || e != wantE {
		t.Fatalf("Get(%x) = %v, %d, %v, want %v, %d, %v", short(b), f, size, e, want, wantSize, wantE)
	}
	if e != api.OK && f.Payload != nil {
		t.Fatalf("Get(%x) has a payload beside an error", short(b))
	}
	if !bytes.Equal(b, before) {
		t.Fatalf("Get changed %x", short(before))
	}
}

// short is the front of bytes, so that a failure can be read.
func short(b []byte) []byte { return b[:min(len(b), 40)] }

// refused fails if Get of bytes isn't just an error.
func refused(t *testing.T, name string, b []byte, want api.Errno) {
	t.Helper()
	f, size, e := Get(b)
	if e != want || size != 0 || f.Kind != 0 || f.Payload != nil {
		t.Errorf("%s: Get(%x) = %v, %d, %v, want %v", name, short(b), f, size, e, want)
	}
}

func TestExample(t *testing.T) {
	b, e := Put(api.Frame{Kind: 1})
	if e != api.OK || len(b) != 10 || !bytes.Equal(b[:6], []byte{199, 84, 71, 1, 1, 0}) {
		t.Errorf("Put = %v, %v", b, e)
	}
	f, size, e := Get(b)
	if f.Kind != 1 || len(f.Payload) != 0 || size != 10 || e != api.OK {
		t.Errorf("Get = %v, %d, %v", f, size, e)
	}
}

func TestKnownBytes(t *testing.T) {
	for _, c := range []struct {
		f    api.Frame
		want string
	}{
		{api.Frame{Kind: 1}, "\xc7TG\x01\x01\x00\xbe\x23\xc2\x58"},
		{api.Frame{Kind: 2}, "\xc7TG\x01\x02\x00\x7d\x70\xef\x73"},
		{api.Frame{Kind: 2, Payload: []byte("a")}, "\xc7TG\x01\x02\x01a\xf3\x6d\x6b\xdf"},
		{api.Frame{Kind: 2, Payload: []byte("hello")}, "\xc7TG\x01\x02\x05hello\x7f\x0e\x0c\xaa"},
	} {
		if b, e := Put(c.f); e != api.OK || string(b) != c.want {
			t.Errorf("Put(%v) = %x, %v, want %x", c.f, b, e, c.want)
		}
		if f, n, e := Get([]byte(c.want)); f.Kind != c.f.Kind || !bytes.Equal(f.Payload, c.f.Payload) || n != len(c.want) || e != api.OK {
			t.Errorf("Get(%x) = %v, %d, %v, want %v", c.want, f, n, e, c.f)
		}
	}
}

func TestPut(t *testing.T) {
	for _, kind := range []int{api.SchemaFrame, api.EventFrame} {
		for _, size := range sizes() {
			for _, payload := range [][]byte{make([]byte, size), bytes.Repeat([]byte{255}, size), filled(size, kind)} {
				b, e := Put(api.Frame{Kind: kind, Payload: payload})
				if e != api.OK || !bytes.Equal(b, whole(byte(kind), payload)) {
					t.Errorf("Put of the kind %d, %d bytes = %x, %v", kind, size, short(b), e)
				}
			}
		}
	}
}

func TestPutOfNoPayload(t *testing.T) {
	none, _ := Put(api.Frame{Kind: 2, Payload: nil})
	empty, _ := Put(api.Frame{Kind: 2, Payload: []byte{}})
	if !bytes.Equal(none, empty) || len(none) != 10 {
		t.Errorf("a nil payload has the bytes %x, an empty one %x", none, empty)
	}
}

func TestPutOfAnyKind(t *testing.T) {
	kinds := []int{math.MinInt, -256, -255, -254, -2, -1, 256, 257, 258, 513, 1 << 16, 1<<32 + 1, 1<<32 + 2, math.MaxInt}
	for kind := range 256 {
		kinds = append(kinds, kind)
	}
	for _, kind := range kinds {
		for _, size := range []int{0, 1, 127, 128, 4096, 4097, 5000} {
			may := (kind == 1 || kind == 2) && size <= 4096
			b, e := Put(api.Frame{Kind: kind, Payload: make([]byte, size)})
			if may && (e != api.OK || len(b) == 0) || !may && (e != api.ErrArg || b != nil) {
				t.Errorf("Put of the kind %d, %d bytes = %x, %v", kind, size, short(b), e)
			}
		}
	}
}

func TestPutOfTooMuch(t *testing.T) {
	for _, size := range []int{4097, 4098, 8192, 1 << 20} {
		if b, e := Put(api.Frame{Kind: 1, Payload: make([]byte, size)}); e != api.ErrArg || b != nil {
			t.Errorf("Put of %d bytes = %x, %v", size, short(b), e)
		}
	}
}

func TestThereAndBack(t *testing.T) {
	behind := [][]byte{nil, {}, {0}, {1, 2, 3}, []byte("\xc7TG\x01"), filled(5000, 1), whole(2, filled(9, 2))}
	for _, kind := range []int{1, 2} {
		for _, size := range sizes() {
			payload := filled(size, 3)
			b, _ := Put(api.Frame{Kind: kind, Payload: payload})
			for _, more := range behind {
				f, n, e := Get(slices.Concat(b, more))
				if f.Kind != kind || !bytes.Equal(f.Payload, payload) || n != len(b) || e != api.OK {
					t.Errorf("Get of the kind %d, %d bytes, with %d behind = %v, %d, %v", kind, size, len(more), f.Kind, n, e)
				}
			}
		}
	}
}

// What is read has just the bytes that it was read from.
func TestOneWay(t *testing.T) {
	for _, kind := range []byte{1, 2} {
		for _, size := range sizes() {
			b := append(whole(kind, filled(size, 5)), 7, 8, 9)
			f, n, e := Get(b)
			if e != api.OK {
				t.Fatalf("Get of %x = %v", short(b), e)
			}
			if again, e := Put(f); e != api.OK || !bytes.Equal(again, b[:n]) {
				t.Errorf("%x was read, %x is written", short(b), short(again))
			}
		}
	}
}

func TestCutOffAnywhere(t *testing.T) {
	for _, kind := range []byte{1, 2} {
		for _, size := range sizes() {
			b := whole(kind, filled(size, 4))
			for i := range len(b) {
				if size > 300 && i > 300 && i < len(b)-300 && i%97 != 0 {
					continue
				}
				f, n, e := Get(b[:i:i])
				if e != api.ErrShort || n != 0 || f.Kind != 0 || f.Payload != nil {
					t.Fatalf("of %d bytes, cut off at %d, Get = %v, %d, %v", len(b), i, f, n, e)
				}
			}
		}
	}
}

func TestOtherMark(t *testing.T) {
	good := whole(1, []byte("abc"))
	for i := range theMark {
		for c := range 256 {
			if byte(c) == theMark[i] {
				continue
			}
			b := slices.Clone(good)
			b[i] = byte(c)
			refused(t, "another mark", b, api.ErrForm)
			for end := i + 1; end <= 6; end++ {
				refused(t, "another mark, cut off", b[:end], api.ErrForm)
			}
			for end := range i + 1 {
				refused(t, "cut off ahead of it", b[:end], api.ErrShort)
			}
		}
	}
	refused(t, "nil", nil, api.ErrShort)
	refused(t, "no bytes", []byte{}, api.ErrShort)
	refused(t, "the mark's second byte first", []byte{84}, api.ErrForm)
}

func TestOtherKind(t *testing.T) {
	for kind := range 256 {
		if kind == 1 || kind == 2 {
			continue
		}
		refused(t, "alone", append(slices.Clone(theMark), byte(kind)), api.ErrForm)
		refused(t, "whole, with its sum", whole(byte(kind), []byte("abc")), api.ErrForm)
		refused(t, "with a length that is too long", summed([]byte{byte(kind), 255, 255, 255}), api.ErrForm)
	}
}

func TestOtherLength(t *testing.T) {
	nines := bytes.Repeat([]byte{0xff}, 9)
	for _, c := range []struct {
		name   string
		length []byte
		e      api.Errno
	}{
		{"0 in two bytes", []byte{128, 0}, api.ErrForm},
		{"3 in two bytes", []byte{131, 0}, api.ErrForm},
		{"3 in three bytes", []byte{131, 128, 0}, api.ErrForm},
		{"4097 in three bytes", []byte{129, 160, 0}, api.ErrForm},
		{"0 in ten bytes", append(bytes.Repeat([]byte{128}, 9), 0), api.ErrForm},
		{"4097", []byte{129, 32}, api.ErrLimit},
		{"4098", []byte{130, 32}, api.ErrLimit},
		{"5000", number(5000), api.ErrLimit},
		{"65536", number(65536), api.ErrLimit},
		{"2^32", number(1 << 32), api.ErrLimit},
		{"2^32 and 3", number(1<<32 + 3), api.ErrLimit},
		{"2^63", number(1 << 63), api.ErrLimit},
		{"2^64 - 1", number(math.MaxUint64), api.ErrLimit},
		{"2^64", append(slices.Clone(nines), 2), api.ErrLong},
		{"a tenth byte of 127", append(slices.Clone(nines), 127), api.ErrLong},
		{"eleven bytes", append(slices.Clone(nines), 255, 1), api.ErrLong},
		{"twenty bytes", append(bytes.Repeat([]byte{128}, 19), 1), api.ErrLong},
	} {
		for _, kind := range []byte{1, 2} {
			refused(t, c.name, slices.Concat(theMark, []byte{kind}, c.length), c.e)
			refused(t, c.name+", with a payload and a sum", summed(body(kind, c.length, []byte("abc"))), c.e)
			refused(t, c.name+", with much behind", summed(body(kind, c.length, filled(9000, 1))), c.e)
		}
	}
}

func TestLengthNotAllThere(t *testing.T) {
	for size := range 10 {
		length := bytes.Repeat([]byte{255}, size)
		refused(t, "cut off within the length", slices.Concat(theMark, []byte{2}, length), api.ErrShort)
	}
}

func TestLengthAtTheLimit(t *testing.T) {
	b := slices.Concat(theMark, []byte{2, 128, 32})
	refused(t, "4096, and none there", b, api.ErrShort)
	refused(t, "4096, and 4095 there", append(slices.Clone(b), make([]byte, 4095)...), api.ErrShort)
	refused(t, "4096, and no sum", append(slices.Clone(b), make([]byte, 4096)...), api.ErrShort)
	refused(t, "4096, and three of the sum", append(slices.Clone(b), make([]byte, 4099)...), api.ErrShort)
	refused(t, "4096, and another sum", append(slices.Clone(b), make([]byte, 4100)...), api.ErrSum)
}

// A sum that isn't all there is short, though what there is of it is another one.
func TestOtherSumCutOff(t *testing.T) {
	b := whole(2, []byte("hello"))
	for i := len(b) - 4; i < len(b); i++ {
		b[i] = ^b[i]
	}
	for end := len(b) - 4; end < len(b); end++ {
		refused(t, "cut off within another sum", b[:end], api.ErrShort)
	}
	refused(t, "another sum", b, api.ErrSum)
}

func TestOtherSum(t *testing.T) {
	for _, size := range []int{0, 1, 5, 127, 128, 4096} {
		good := whole(1, filled(size, 6))
		for i := len(good) - 4; i < len(good); i++ {
			for by := 1; by < 256; by++ {
				b := slices.Clone(good)
				b[i] ^= byte(by)
				refused(t, "another sum", b, api.ErrSum)
				refused(t, "another sum, with the right one behind", slices.Concat(b, good[len(good)-4:]), api.ErrSum)
			}
		}
		backwards := slices.Clone(good)
		slices.Reverse(backwards[len(good)-4:])
		refused(t, "the sum's highest byte first", backwards, api.ErrSum)
	}
}

// The sum is of the kind, the length and the payload: not of the mark, nor of less.
func TestSumOfOtherBytes(t *testing.T) {
	good := whole(2, []byte("hello"))
	end := len(good) - 4
	for from := range end + 1 {
		if from == 4 {
			continue
		}
		b := binary.LittleEndian.AppendUint32(slices.Clone(good[:end]), crc32.ChecksumIEEE(good[from:end]))
		refused(t, "a sum of other bytes", b, api.ErrSum)
	}
	other := whole(1, []byte("hello"))
	other[4] = 2
	refused(t, "another kind's sum", other, api.ErrSum)
}

// Within the payload and the sum, what is turned within 32 bits in a row is told by the sum.
func TestBitsTurned(t *testing.T) {
	patterns := []uint32{1, 3, 5, 0x80000000, 0x80000001, 0xffffffff, 0x7fffffff, 0x55555555, 0xEDB88320, 0xDB710641}
	for i := range 60 {
		patterns = append(patterns, uint32(i+1)*2654435761)
	}
	for _, size := range []int{0, 1, 5, 40, 130} {
		good := whole(1, filled(size, 7))
		front := 8 * (len(good) - 4 - size)
		for from := front; from < 8*len(good); from++ {
			for _, pattern := range patterns {
				b, turned := slices.Clone(good), false
				for i := range min(32, 8*len(good)-from) {
					if pattern>>i&1 == 1 {
						b[(from+i)/8] ^= 1 << ((from + i) % 8)
						turned = true
					}
				}
				if turned {
					refused(t, "bits turned", b, api.ErrSum)
				}
			}
		}
	}
}

// No frame is read where one bit is another one, wherever it is.
func TestOneBitTurned(t *testing.T) {
	for _, size := range []int{0, 1, 3, 127, 128, 200} {
		good := append(whole(2, filled(size, 8)), filled(300, 9)...)
		for i := range 8 * (len(good) - 300) {
			b := slices.Clone(good)
			b[i/8] ^= 1 << (i % 8)
			if f, n, e := Get(b); e == api.OK {
				t.Errorf("of a payload of %d, bit %d turned, Get = %v, %d", size, i, f, n)
			}
			sameAsModel(t, b)
		}
	}
}

// Each byte of some frames becomes each other byte, and the rest stays or is cut off.
func TestAsTheModel(t *testing.T) {
	for _, good := range [][]byte{whole(1, nil), whole(2, []byte("ab")), whole(1, filled(128, 2)), summed([]byte{1, 131, 0, 'a', 'b', 'c'})} {
		for i := range min(len(good), 20) {
			for c := range 256 {
				b := slices.Clone(good)
				b[i] = byte(c)
				sameAsModel(t, b)
				sameAsModel(t, b[:i+1])
				sameAsModel(t, append(b, good...))
			}
		}
	}
	for _, size := range sizes() {
		for _, more := range []int{0, 1, 4, 5000} {
			sameAsModel(t, append(whole(1, filled(size, 1)), filled(more, 2)...))
		}
	}
}

// All bytes of at most two behind the mark, and all of three at the edges of a byte.
func TestAllShortBytes(t *testing.T) {
	sameAsModel(t, theMark)
	edges := []byte{0, 1, 2, 3, 31, 32, 33, 127, 128, 129, 160, 254, 255}
	for i := range 256 {
		sameAsModel(t, []byte{byte(i)})
		sameAsModel(t, append(slices.Clone(theMark), byte(i)))
		for j := range 256 {
			sameAsModel(t, append(slices.Clone(theMark), byte(i), byte(j)))
			for _, c := range edges {
				sameAsModel(t, append(slices.Clone(theMark), byte(i), byte(j), c))
			}
		}
	}
}

func TestSize(t *testing.T) {
	for payload, want := range map[int]int{
		math.MinInt: 0, -4096: 0, -1: 0, 0: 10, 1: 11, 126: 136, 127: 137, 128: 139, 129: 140, 4095: 4106, 4096: 4107, 4097: 0, 4098: 0, 1 << 20: 0, math.MaxInt: 0,
	} {
		if size := Size(payload); size != want {
			t.Errorf("Size(%d) = %d, want %d", payload, size, want)
		}
	}
	for payload := range api.MaxPayload + 1 {
		b, e := Put(api.Frame{Kind: 1, Payload: make([]byte, payload)})
		if size := Size(payload); e != api.OK || size != len(b) {
			t.Fatalf("Size(%d) = %d, Put has %d bytes, %v", payload, size, len(b), e)
		}
	}
}

// Whoever writes into what was handed in, or has room behind it, is left alone, and so is what was answered.
func TestPutIsNewMemory(t *testing.T) {
	room := []byte("hello, and more")
	payload := room[:5]
	b, _ := Put(api.Frame{Kind: 2, Payload: payload})
	if string(room) != "hello, and more" {
		t.Errorf("Put changed its payload's memory: %q", room)
	}
	want := whole(2, []byte("hello"))
	room[0] = 'j'
	if !bytes.Equal(b, want) {
		t.Errorf("what Put answered became %x", b)
	}
	room[0] = 'h'
	for i := range b {
		b[i] = 0
	}
	if string(room) != "hello, and more" {
		t.Errorf("what Put answered is its payload's memory: %q", room)
	}
	if again, _ := Put(api.Frame{Kind: 2, Payload: payload}); !bytes.Equal(again, want) {
		t.Errorf("what Put answers became %x", again)
	}
}

func TestGetIsNewMemory(t *testing.T) {
	b := append(whole(2, []byte("hello")), "rest"...)
	before := slices.Clone(b)
	f, n, _ := Get(b)
	for i := range b {
		b[i] = 0
	}
	if string(f.Payload) != "hello" || n != 15 {
		t.Errorf("what Get answered became %q, %d", f.Payload, n)
	}
	copy(b, before)
	for i := range f.Payload {
		f.Payload[i] = 'x'
	}
	_ = append(f.Payload, "xxxxxxxxxxxxxxx"...)
	if !bytes.Equal(b, before) {
		t.Errorf("what Get answered is the memory that was handed in: %x", b)
	}
	if again, _, _ := Get(b); string(again.Payload) != "hello" {
		t.Errorf("what Get answers became %q", again.Payload)
	}
}
