package stream_test

import (
	"fmt"
	"testing"
)

// Every order of up to five calls: chunks that end within frames, with one, and with several, no bytes, and Close.
func TestAllOrders(t *testing.T) {
	t.Parallel()
	five := events(at(5))
	chunks := []string{own(), five[:6], five[6:], events(at(4)) + "\x00" + five, yet, ""}
	for _, calls := range lists([]int{0, 1, 2, 3, 4, 5, 6}, 5) {
		p := newPlayer(t, fmt.Sprintf("calls %v", calls))
		for _, call := range calls {
			if call == len(chunks) {
				p.shut()
				continue
			}
			p.play(chunks[call])
		}
		if t.Failed() {
			t.FailNow()
		}
	}
}

// Long orders of calls drawn from fixed seeds, with chunks cut out of rows, and Close here and there, also again.
func TestDrawnOrders(t *testing.T) {
	t.Parallel()
	points, rejects, late := 0, 0, 0
	for seed := range int64(400) {
		d := newDrawer(seed)
		p := newPlayer(t, fmt.Sprintf("the seed %d", seed))
		b := d.row() + d.row()
		for range d.Intn(60) {
			size := min(d.Intn(1+d.Intn(80)), len(b))
			p.play(b[:size])
			b = b[size:]
			if d.Intn(60) == 0 {
				p.shut()
			}
		}
		ahead := len(p.was.got.Points)
		p.shut()
		points, rejects, late = points+len(p.was.got.Points), rejects+len(p.was.got.Rejects), late+len(p.was.got.Points)-ahead
		p.closedForGood()
		if t.Failed() {
			t.FailNow()
		}
	}
	if points < 1000 || rejects < 1000 || late < 20 {
		t.Errorf("only %d points, %d of them late, %d rejects", points, late, rejects)
	}
}

// Byte by byte, whole rows.
func TestByteByByte(t *testing.T) {
	t.Parallel()
	for seed := range int64(40) {
		p := newPlayer(t, fmt.Sprintf("the seed %d", seed))
		b := newDrawer(5000 + seed).row()
		for i := range b {
			p.play(b[i : i+1])
		}
		p.shut()
		if t.Failed() {
			t.FailNow()
		}
	}
}
