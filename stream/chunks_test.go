package stream_test

import (
	"bytes"
	"fmt"
	"math"
	"math/rand"
	"slices"
	"testing"

	"tachograph/stream"
)

// texts are chunks as texts.
func texts(l [][]byte) []string {
	var all []string
	for _, chunk := range l {
		all = append(all, string(chunk))
	}
	return all
}

// modelChunks are the chunks of bytes, as the chapter says it, a byte at a time.
func modelChunks(b string, sizes []int) []string {
	if b == "" {
		return nil
	}
	if len(sizes) == 0 || slices.ContainsFunc(sizes, func(size int) bool { return size < 1 }) {
		return []string{b}
	}
	var l []string
	turn, room := 0, 0
	for i := range len(b) {
		if room == 0 {
			l = append(l, "")
			room = sizes[turn]
			turn++
			if turn == len(sizes) {
				turn = 0
			}
		}
		l[len(l)-1] += b[i : i+1]
		room--
	}
	return l
}

// checkChunks holds Chunks against what should be, and that what is handed in stays as it is.
func checkChunks(t *testing.T, b string, sizes []int, want ...string) {
	t.Helper()
	room, numbers := append([]byte(b), "behind"...), append(slices.Clone(sizes), 0, 1)
	l := stream.Chunks(room[:len(b)], numbers[:len(sizes)]...)
	if got := texts(l); !slices.Equal(got, want) {
		t.Errorf("Chunks(%.60q, %v) = %.300q, want %.300q", b, sizes, got, want)
	}
	if string(room) != b+"behind" || !slices.Equal(numbers, append(slices.Clone(sizes), 0, 1)) {
		t.Errorf("Chunks(%.60q, %v) left %.60q and %v", b, sizes, room, numbers)
	}
	if all := bytes.Join(l, nil); string(all) != b {
		t.Errorf("Chunks(%.60q, %v), put together, are %.60q", b, sizes, all)
	}
}

// Sizes in turn, round and round, the last chunk of what is left.
func TestChunks(t *testing.T) {
	checkChunks(t, "abcdefg", []int{1}, "a", "b", "c", "d", "e", "f", "g")
	checkChunks(t, "abcdefg", []int{2}, "ab", "cd", "ef", "g")
	checkChunks(t, "abcdef", []int{2}, "ab", "cd", "ef")
	checkChunks(t, "abcdefg", []int{2, 3}, "ab", "cde", "fg")
	checkChunks(t, "abcdefg", []int{3, 2}, "abc", "de", "fg")
	checkChunks(t, "abcdefg", []int{1, 2, 1}, "a", "bc", "d", "e", "fg")
	checkChunks(t, "abcdefg", []int{3, 3, 1, 1}, "abc", "def", "g")
	checkChunks(t, "abcdefg", []int{1, 1, 9}, "a", "b", "cdefg")
	checkChunks(t, "abcdefg", []int{6}, "abcdef", "g")
	checkChunks(t, "\x00\xff\xc7", []int{2}, "\x00\xff", "\xc7")
}

// Sizes that are greater than all bytes, and that are all bytes.
func TestGreatSizes(t *testing.T) {
	for _, size := range []int{7, 8, 100, 1 << 31, 1 << 32, 1<<32 + 1, math.MaxInt - 1, math.MaxInt} {
		checkChunks(t, "abcdefg", []int{size}, "abcdefg")
		checkChunks(t, "abcdefg", []int{size, 1}, "abcdefg")
		checkChunks(t, "abcdefg", []int{size, size, size}, "abcdefg")
		checkChunks(t, "abcdefg", []int{1, size}, "a", "bcdefg")
		checkChunks(t, "abcdefg", []int{6, size, 1}, "abcdef", "g")
		checkChunks(t, "abcdefg", []int{2, 1, size, size}, "ab", "c", "defg")
		checkChunks(t, "a", []int{size}, "a")
	}
	// More sizes than bytes.
	checkChunks(t, "abc", []int{1, 1, 1, 1, 1, 1}, "a", "b", "c")
	checkChunks(t, "abc", slices.Repeat([]int{1}, 1000), "a", "b", "c")
}

// Bytes alone, if there are no sizes, or one is below 1, wherever it stands, also behind sizes that are enough.
func TestNoSizes(t *testing.T) {
	for _, b := range []string{"a", "ab", "abcdefg", long(5000)} {
		checkChunks(t, b, nil, b)
		checkChunks(t, b, []int{}, b)
		if l := stream.Chunks([]byte(b)); !slices.Equal(texts(l), []string{b}) {
			t.Errorf("Chunks without sizes = %.300q", l)
		}
		for _, wrong := range []int{0, -1, -2, -100, -1 << 31, -1 << 32, math.MinInt + 1, math.MinInt} {
			checkChunks(t, b, []int{wrong}, b)
			checkChunks(t, b, []int{wrong, 1}, b)
			checkChunks(t, b, []int{1, wrong}, b)
			checkChunks(t, b, []int{1, wrong, 1}, b)
			checkChunks(t, b, []int{math.MaxInt, wrong}, b)
			checkChunks(t, b, []int{wrong, wrong, 3}, b)
			checkChunks(t, b, append(slices.Repeat([]int{1}, 6000), wrong), b)
		}
	}
}

// There are none of no bytes, with any sizes.
func TestChunksOfNothing(t *testing.T) {
	for _, sizes := range [][]int{nil, {}, {1}, {2, 3}, {0}, {-1}, {math.MinInt}, {math.MaxInt}, {1, 0}, {math.MaxInt, 1}} {
		checkChunks(t, "", sizes)
		for _, b := range [][]byte{nil, {}, []byte("abc")[:0]} {
			if l := stream.Chunks(b, sizes...); len(l) != 0 {
				t.Errorf("Chunks of no bytes, %v, = %q", sizes, l)
			}
		}
	}
}

// All short bytes with all short rows of small sizes, against the model.
func TestAllSmallChunks(t *testing.T) {
	for size := range 12 {
		b := "abcdefghijkl"[:size]
		for _, sizes := range lists([]int{-1, 0, 1, 2, 3, 5, 13}, 4) {
			checkChunks(t, b, sizes, modelChunks(b, sizes)...)
		}
	}
}

// Bytes and sizes drawn from fixed seeds, likewise.
func TestDrawnChunks(t *testing.T) {
	for seed := range int64(500) {
		d := rand.New(rand.NewSource(seed))
		b := make([]byte, d.Intn(300))
		d.Read(b)
		sizes := make([]int, d.Intn(6))
		for i := range sizes {
			sizes[i] = []int{1 + d.Intn(3), 1 + d.Intn(40), 1 + d.Intn(400), int(d.Int63())}[d.Intn(4)]
			if d.Intn(40) == 0 {
				sizes[i] = -sizes[i] + 1
			}
		}
		checkChunks(t, string(b), sizes, modelChunks(string(b), sizes)...)
	}
}

// Chunks are new memory: whoever writes into them, or behind them, changes neither the bytes nor other chunks, and whoever writes into the bytes or the sizes doesn't change them.
func TestChunksAreNewMemory(t *testing.T) {
	for _, sizes := range [][]int{nil, {0}, {1}, {2, 3}, {7}, {9}, {100}} {
		name := fmt.Sprintf("sizes %v", sizes)
		b := []byte("abcdefghijklmnopqrstuvwxyz")
		given := slices.Clone(sizes)
		l, other := stream.Chunks(b, given...), stream.Chunks(b, given...)
		want := modelChunks(string(b), sizes)
		for i := range l {
			_ = append(l[i], "written behind"...)
			if !slices.Equal(texts(l), want) {
				t.Fatalf("%s: with bytes put behind the chunk %d they are %q", name, i, l)
			}
		}
		_ = append(l, []byte("more"))
		for i := range other {
			spoilList(other[i], 0xee)
		}
		spoilList(other, []byte("spoilt"))
		if string(b) != "abcdefghijklmnopqrstuvwxyz" || !slices.Equal(texts(l), want) {
			t.Errorf("%s: with other chunks written over the bytes are %q, the chunks %q", name, b, l)
		}
		clear(b)
		clear(given)
		if !slices.Equal(texts(l), want) {
			t.Errorf("%s: with the bytes written over the chunks are %q", name, l)
		}
	}
}
