package crc

import (
	"bytes"
	"encoding/binary"
	"hash/crc32"
	"math"
	"math/bits"
	"slices"
	"testing"
)

// plain is the chapter's rule, bit by bit, without rows.
func plain(b []byte) uint32 {
	sum := uint32(math.MaxUint32)
	for _, c := range b {
		sum ^= uint32(c)
		for range 8 {
			low := sum % 2
			sum /= 2
			if low != 0 {
				sum ^= 0xEDB88320
			}
		}
	}
	return math.MaxUint32 - sum
}

// filled are size bytes of a fixed pattern, another one for each seed.
func filled(size, seed int) []byte {
	b := make([]byte, size)
	for i := range b {
		b[i] = byte(i*i*31 + i*seed*7 + seed*seed + i>>3)
	}
	return b
}

// samples are bytes of many sizes, all alike and mixed.
func samples() [][]byte {
	l := [][]byte{nil, {}, []byte("123456789"), []byte("a"), []byte("abc")}
	for _, size := range []int{1, 2, 3, 4, 5, 7, 8, 9, 15, 16, 17, 63, 64, 255, 256, 257, 4096, 4110} {
		l = append(l, make([]byte, size), bytes.Repeat([]byte{0xff}, size), filled(size, 1), filled(size, 6))
	}
	return l
}

func TestExample(t *testing.T) {
	if sum := Sum([]byte("123456789")); sum != 0xCBF43926 {
		t.Errorf("the sum of 123456789 is %x", sum)
	}
}

func TestKnownSums(t *testing.T) {
	for _, c := range []struct {
		s    string
		want uint32
	}{
		{"", 0},
		{"a", 0xe8b7be43},
		{"abc", 0x352441c2},
		{"\x00", 0xd202ef8d},
		{"\xff", 0xff000000},
		{"\x00\x00\x00\x00", 0x2144df1c},
		{"\xff\xff\xff\xff", 0xffffffff},
		{"The quick brown fox jumps over the lazy dog", 0x414fa339},
	} {
		if sum := Sum([]byte(c.s)); sum != c.want {
			t.Errorf("Sum(%q) = %x, want %x", c.s, sum, c.want)
		}
		if sum := More(0, []byte(c.s)); sum != c.want {
			t.Errorf("More(0, %q) = %x, want %x", c.s, sum, c.want)
		}
	}
}

func TestSumOfOnePart(t *testing.T) {
	for _, b := range samples() {
		want := plain(b)
		if sum := Sum(b); sum != want || sum != crc32.ChecksumIEEE(b) {
			t.Errorf("Sum of %d bytes = %x, want %x", len(b), sum, want)
		}
	}
}

// All bytes of one and two: every byte from the first state, and behind every other.
func TestSumOfShortBytes(t *testing.T) {
	for i := range 256 {
		one := []byte{byte(i)}
		if sum, want := Sum(one), plain(one); sum != want {
			t.Errorf("Sum(%x) = %x, want %x", one, sum, want)
		}
		for j := range 256 {
			two := []byte{byte(i), byte(j)}
			if sum, want := Sum(two), plain(two); sum != want {
				t.Errorf("Sum(%x) = %x, want %x", two, sum, want)
			}
		}
	}
}

func TestSumOfNoPart(t *testing.T) {
	for name, sum := range map[string]uint32{
		"Sum()":                Sum(),
		"Sum(nil)":             Sum(nil),
		"Sum of an empty one":  Sum([]byte{}),
		"Sum of no list":       Sum([][]byte(nil)...),
		"Sum of an empty list": Sum([][]byte{}...),
		"Sum of empty ones":    Sum(nil, []byte{}, nil, make([]byte, 0, 9)),
	} {
		if sum != 0 {
			t.Errorf("%s = %x, want 0", name, sum)
		}
	}
}

func TestSumOfManyParts(t *testing.T) {
	b := filled(300, 3)
	want := plain(b)
	for _, size := range []int{1, 2, 3, 7, 100, 299, 300, 301} {
		parts := slices.Collect(slices.Chunk(b, size))
		if sum := Sum(parts...); sum != want {
			t.Errorf("Sum of parts of %d = %x, want %x", size, sum, want)
		}
		gaps := [][]byte{nil}
		for _, part := range parts {
			gaps = append(gaps, part, nil, []byte{})
		}
		if sum := Sum(gaps...); sum != want {
			t.Errorf("Sum of parts of %d, with empty ones = %x, want %x", size, sum, want)
		}
	}
}

// The parts' order tells: the sum is that of one behind the other, not of the parts as they like.
func TestOrderOfParts(t *testing.T) {
	one, two := []byte("12345"), []byte("6789")
	if sum, want := Sum(two, one), plain([]byte("678912345")); sum != want || sum == Sum(one, two) {
		t.Errorf("Sum(6789, 12345) = %x, want %x", sum, want)
	}
}

func TestCutAnywhere(t *testing.T) {
	for _, b := range [][]byte{nil, {0}, []byte("123456789"), filled(40, 2), make([]byte, 20)} {
		want := plain(b)
		for i := range len(b) + 1 {
			first, rest := b[:i], b[i:]
			if sum := Sum(first, rest); sum != want {
				t.Errorf("Sum of %x, cut at %d = %x, want %x", b, i, sum, want)
			}
			if sum := More(Sum(first), rest); sum != want {
				t.Errorf("More of %x, cut at %d = %x, want %x", b, i, sum, want)
			}
			for j := range len(rest) + 1 {
				if sum := Sum(first, rest[:j], rest[j:]); sum != want {
					t.Errorf("Sum of %x, cut at %d and %d = %x, want %x", b, i, i+j, sum, want)
				}
				if sum := More(More(Sum(first), rest[:j]), rest[j:]); sum != want {
					t.Errorf("More of %x, cut at %d and %d = %x, want %x", b, i, i+j, sum, want)
				}
			}
		}
	}
}

// sums are numbers at the edges and between; each one is the sum of some bytes.
func sums() []uint32 {
	l := []uint32{0, 1, 0x01020304, 0x7fffffff, 0x80000000, 0xCBF43926, 0xfffffffe, 0xffffffff}
	for shift := range 32 {
		l = append(l, 1<<shift, ^uint32(1<<shift))
	}
	return l
}

// withSum are the four bytes that have a sum: what they are is found bit by bit, as each one turns its own part of the sum.
func withSum(t *testing.T, sum uint32) []byte {
	t.Helper()
	var kept [32]struct{ turn, by uint32 } // by the highest bit of what is turned
	base := plain(make([]byte, 4))
	for i := range 32 {
		var b [4]byte
		binary.LittleEndian.PutUint32(b[:], 1<<i)
		turn, by := plain(b[:])^base, uint32(1)<<i
		for turn != 0 && kept[bits.Len32(turn)-1].turn != 0 {
			k := kept[bits.Len32(turn)-1]
			turn, by = turn^k.turn, by^k.by
		}
		if turn == 0 {
			t.Fatal("two of four bytes have the same sum")
		}
		kept[bits.Len32(turn)-1] = struct{ turn, by uint32 }{turn, by}
	}
	rest, found := sum^base, uint32(0)
	for rest != 0 {
		k := kept[bits.Len32(rest)-1]
		rest, found = rest^k.turn, found^k.by
	}
	return binary.LittleEndian.AppendUint32(nil, found)
}

func TestMoreFromAnySum(t *testing.T) {
	for _, sum := range sums() {
		first := withSum(t, sum)
		if plain(first) != sum || Sum(first) != sum {
			t.Fatalf("the sum of %x is %x, want %x", first, Sum(first), sum)
		}
		for _, b := range [][]byte{nil, {}, {0}, {255}, []byte("abc"), make([]byte, 9), filled(70, 4)} {
			want := plain(slices.Concat(first, b))
			if got := More(sum, b); got != want || got != crc32.Update(sum, crc32.IEEETable, b) {
				t.Errorf("More(%x, %x) = %x, want %x", sum, b, got, want)
			}
		}
	}
}

func TestRows(t *testing.T) {
	for i := range 256 {
		want := uint32(i)
		for range 8 {
			if want%2 == 1 {
				want = want/2 ^ 0xEDB88320
			} else {
				want /= 2
			}
		}
		if row := Row(byte(i)); row != want || row != crc32.IEEETable[i] {
			t.Errorf("Row(%d) = %x, want %x", i, row, want)
		}
	}
	for i, want := range map[byte]uint32{0: 0, 1: 0x77073096, 2: 0xee0e612c, 128: 0xedb88320, 255: 0x2d02ef8d} {
		if row := Row(i); row != want {
			t.Errorf("Row(%d) = %x, want %x", i, row, want)
		}
	}
}

// The array stands as it was laid at the start: what comes of each byte.
func TestRowsAreLaid(t *testing.T) {
	for i, row := range rows {
		if row != crc32.IEEETable[i] {
			t.Errorf("row %d was laid as %x, want %x", i, row, crc32.IEEETable[i])
		}
	}
}

// Answers are worked out by the shifts: they are the same whatever stands in the array.
func TestAnswersHangOnNoRow(t *testing.T) {
	laid := rows
	defer func() { rows = laid }()
	for i := range rows {
		rows[i] = ^laid[i]
	}
	for i := range 256 {
		if row := Row(byte(i)); row != crc32.IEEETable[i] {
			t.Errorf("Row(%d) = %x, want %x", i, row, crc32.IEEETable[i])
		}
	}
	for _, b := range samples() {
		if sum, want := Sum(b), plain(b); sum != want || More(0, b) != want {
			t.Errorf("Sum of %d bytes = %x, More = %x, want %x", len(b), sum, More(0, b), want)
		}
	}
}

func TestBytes(t *testing.T) {
	for _, c := range []struct {
		sum  uint32
		want [4]byte
	}{
		{0, [4]byte{0, 0, 0, 0}},
		{1, [4]byte{1, 0, 0, 0}},
		{0xff, [4]byte{255, 0, 0, 0}},
		{0x100, [4]byte{0, 1, 0, 0}},
		{0x10000, [4]byte{0, 0, 1, 0}},
		{0x1000000, [4]byte{0, 0, 0, 1}},
		{0x80000000, [4]byte{0, 0, 0, 128}},
		{0xffffffff, [4]byte{255, 255, 255, 255}},
		{0x01020304, [4]byte{4, 3, 2, 1}},
		{0xCBF43926, [4]byte{0x26, 0x39, 0xF4, 0xCB}},
	} {
		if b := Bytes(c.sum); b != c.want {
			t.Errorf("Bytes(%x) = %x, want %x", c.sum, b, c.want)
		}
	}
	for _, sum := range sums() {
		if b := Bytes(sum); binary.LittleEndian.Uint32(b[:]) != sum {
			t.Errorf("Bytes(%x) = %x", sum, b)
		}
	}
}

func TestLeavesWhatIsHandedIn(t *testing.T) {
	whole := filled(60, 5)
	before := slices.Clone(whole)
	parts := [][]byte{whole[:10], nil, whole[10:10], whole[10:33], whole[33:40]}
	sizes := []int{10, 0, 0, 23, 7}
	Sum(parts...)
	More(7, whole[:20])
	More(0xffffffff, whole[20:40])
	if !bytes.Equal(whole, before) {
		t.Errorf("bytes that were handed in changed: %x", whole)
	}
	for i, part := range parts {
		if len(part) != sizes[i] || len(part) > 0 && &part[0] != &whole[[]int{0, 0, 0, 10, 33}[i]] {
			t.Errorf("part %d of the list that was handed in changed", i)
		}
	}
	if parts[1] != nil {
		t.Error("the nil part of the list that was handed in changed")
	}
}

// Whoever writes into what was handed in, or into what was answered, changes no later answer.
func TestKeepsNothing(t *testing.T) {
	b := []byte("123456789")
	sum := Sum(b)
	four := Bytes(sum)
	four[0]++
	for i := range b {
		b[i] = 0
	}
	if sum != 0xCBF43926 || More(sum, nil) != sum || Sum([]byte("123456789")) != sum {
		t.Errorf("the sum of 123456789 became %x", Sum([]byte("123456789")))
	}
	if Bytes(sum) != [4]byte{0x26, 0x39, 0xF4, 0xCB} {
		t.Errorf("Bytes(%x) became %x", sum, Bytes(sum))
	}
}

// turn turns bit i of bytes; each byte's lowest bit is first, as a sum takes them. (Counted from the highest on, the promise could hold of no such sum: 10, 30, 233, 213, 224 have that of five bytes 0.)
func turn(b []byte, i int) { b[i/8] ^= 1 << (i % 8) }

func TestSingleBitsTurned(t *testing.T) {
	for _, b := range samples()[2:] {
		if len(b) > 300 {
			continue
		}
		sum := Sum(b)
		seen := map[uint32]int{}
		for i := range 8 * len(b) {
			turned := slices.Clone(b)
			turn(turned, i)
			other := Sum(turned)
			if other == sum {
				t.Errorf("of %d bytes, bit %d turned isn't told", len(b), i)
			}
			if j, ok := seen[other]; ok && i-j < 32 {
				t.Errorf("of %d bytes, bits %d and %d turned have the same sum", len(b), j, i)
			}
			seen[other] = i
		}
	}
}

// fronts are places of the first bit of 32 in a row: at the front, in the middle and at the end of bytes, at each place within a byte.
func fronts(size int) []int {
	var l []int
	for i := range 9 {
		l = append(l, i, 8*(size/2)+i-16, 8*size-32-i)
	}
	return l
}

// Each pattern of turned bits is laid at each of the places.
func TestBitsTurnedInARow(t *testing.T) {
	patterns := []uint32{1, 3, 5, 0x80000000, 0x80000001, 0xc0000000, 0xffffffff, 0xfffffffe, 0x7fffffff, 0x55555555, 0xaaaaaaaa, 0x00ff00ff, 0xEDB88320, 0x04C11DB7, 0xDB710641, 0x82608EDB}
	for i := range 2000 {
		patterns = append(patterns, uint32(i+1)*2654435761)
	}
	for _, b := range [][]byte{make([]byte, 20), bytes.Repeat([]byte{0xff}, 23), filled(40, 8)} {
		sum := Sum(b)
		for _, from := range fronts(len(b)) {
			for _, pattern := range patterns {
				turned := slices.Clone(b)
				for i := range 32 {
					if pattern>>i&1 == 1 {
						turn(turned, from+i)
					}
				}
				if Sum(turned) == sum {
					t.Fatalf("of %d bytes, %x turned from bit %d on isn't told", len(b), pattern, from)
				}
			}
		}
	}
}

// All that can be turned within a few bits, one pattern after the other.
func TestAllTurnedInFewBits(t *testing.T) {
	for _, b := range [][]byte{make([]byte, 2), filled(2, 9), filled(9, 9)} {
		sum := Sum(b)
		for from := range 8*len(b) - 11 {
			for pattern := 1; pattern < 1<<12; pattern++ {
				turned := slices.Clone(b)
				for i := range 12 {
					if pattern>>i&1 == 1 {
						turn(turned, from+i)
					}
				}
				if Sum(turned) == sum {
					t.Fatalf("of %d bytes, %x turned from bit %d on isn't told", len(b), pattern, from)
				}
			}
		}
	}
}

// independent tells whether no choice of some of these, exclusive-or'd, is 0.
func independent(l []uint32) bool {
	var kept []uint32
	for _, x := range l {
		for _, k := range kept {
			x = min(x, x^k)
		}
		if x == 0 {
			return false
		}
		kept = append(kept, x)
	}
	return true
}

// A turned bit changes the sum by the same, whatever the others are, so that all 2^32 patterns at a place are told if what the 32 bits change is independent.
func TestAllTurnedIn32Bits(t *testing.T) {
	for _, b := range [][]byte{make([]byte, 4), filled(4, 1), filled(5, 1), filled(30, 1), filled(300, 1), filled(4096, 1)} {
		sum := Sum(b)
		for _, from := range fronts(len(b)) {
			if from < 0 || from+32 > 8*len(b) {
				continue
			}
			var changes []uint32
			for i := range 32 {
				turned := slices.Clone(b)
				turn(turned, from+i)
				changes = append(changes, Sum(turned)^sum)
			}
			if !independent(changes) {
				t.Errorf("of %d bytes, something turned within 32 bits from bit %d on isn't told", len(b), from)
			}
			all := sum
			turned := slices.Clone(b)
			for i, change := range changes {
				turn(turned, from+i)
				all ^= change
				if got := Sum(turned); got != all {
					t.Fatalf("of %d bytes, %d bits turned from %d on have the sum %x, want %x", len(b), i+1, from, got, all)
				}
			}
		}
	}
}
