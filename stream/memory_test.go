package stream_test

import (
	"fmt"
	"testing"

	"tachograph/api"
	"tachograph/stream"
)

// spoilList writes over a list, and behind it as far as there is room.
func spoilList[T any](l []T, by T) {
	l = l[:cap(l)]
	for i := range l {
		l[i] = by
	}
}

// spoilPoints writes over points and all that is within them, likewise.
func spoilPoints(points []api.Point) {
	for _, p := range points[:cap(points)] {
		for _, e := range p.Events[:cap(p.Events)] {
			spoilList(e.Args, api.Arg{Type: 9, N: 9, S: "spoilt"})
		}
		spoilList(p.Events, api.Event{Pred: -9})
	}
	spoilList(points, api.Point{At: 9})
}

// spoil writes over all lists of what was read, likewise.
func spoil(g api.Got) {
	for _, p := range g.Schema[:cap(g.Schema)] {
		spoilList(p.Args, 9)
	}
	spoilList(g.Schema, pred("spoilt", 1))
	spoilPoints(g.Points)
	spoilList(g.Rejects, api.Reject{At: 9, Why: 9})
}

// someBytes are bytes whose parts are of all sorts.
func someBytes() []string {
	five, six := events(at(5, ev(2, text("a")))), events(at(6), at(6, ev(1, num(-1)), ev(3, text("b"), num(7), text(""))))
	all := []string{
		"", own(), own() + five, own() + five + six + five, "\x00" + five + own() + six + five + own() + "\x00" + six + whole(1, "\x01") + head() + six[:9],
		five + five + whole(1, "\x01") + own() + own() + whole(2, "\x05\x00") + six, head() + events(at(1)) + own() + events(at(1)) + events(at(0)) + head() + five,
		own() + yet + five + six + six[:9], own() + five + "\xc7TG\x01\x01\x40" + six + six + "\x00\x00" + five + own() + turned(six, 12, 1) + long(40) + six,
	}
	for seed := range int64(30) {
		all = append(all, newDrawer(seed).row())
	}
	return all
}

// A chunk stays as it was, what is behind its end isn't gone to, and it isn't kept: all chunks may come in the same memory, which is written over in between.
func TestGiveKeepsNothing(t *testing.T) {
	for i, b := range someBytes() {
		for _, size := range []int{1, 3, 10, 17, len(b) + 1} {
			name := fmt.Sprintf("the row %d, the size %d", i, size)
			p := newPlayer(t, name)
			room := make([]byte, size+30)
			for _, chunk := range stream.Chunks([]byte(b), size) {
				copy(room, chunk)
				copy(room[len(chunk):], events(at(9)))
				was := string(room)
				want := p.next(string(chunk), false)
				points, e := p.s.Give(room[:len(chunk)])
				if string(room) != was {
					t.Errorf("%s: what was handed in is %x, was %x", name, room, was)
				}
				spoilList(room, 0xc7)
				checkPoints(t, name, points, e, want, api.OK)
				checkState(t, name, p.s, p.was)
			}
			p.shut()
		}
	}
}

// keeper keeps what a stream answered, with what it was, while it writes over other answers.
type keeper struct {
	points [][]api.Point
	gots   []api.Got
	was    []string
}

// keep keeps what a call answered, and what was read.
func (k *keeper) keep(points []api.Point, g api.Got) {
	k.points, k.gots = append(k.points, points), append(k.gots, g)
	k.was = append(k.was, toldPoints(points)+told(g))
}

// check holds that all that was kept is as it was, and writes over it, one by one.
func (k *keeper) check(t *testing.T, name string) {
	t.Helper()
	for i := range k.was {
		if now := toldPoints(k.points[i]) + told(k.gots[i]); now != k.was[i] {
			t.Errorf("%s: the answer %d became %s, was %s", name, i, brief(now), brief(k.was[i]))
		}
		spoilPoints(k.points[i])
		spoil(k.gots[i])
	}
}

// What is answered is new memory: whoever writes into it, or behind it, changes nothing of what is answered later, nor of what was answered ahead.
func TestAnswersAreNewMemory(t *testing.T) {
	for i, b := range someBytes() {
		for _, size := range []int{1, 20, 64, len(b) + 1} {
			name := fmt.Sprintf("the row %d, the size %d", i, size)
			kept, spoilt := stream.New(), stream.New()
			var k keeper
			given := ""
			for _, chunk := range stream.Chunks([]byte(b), size) {
				given += string(chunk)
				points, _ := kept.Give(chunk)
				k.keep(points, kept.Got())
				spoil(kept.Got())
				points, _ = spoilt.Give(chunk)
				spoilPoints(points)
				checkState(t, name, spoilt, modelOf(given, false))
				spoil(spoilt.Got())
			}
			points, _ := kept.Close()
			k.keep(points, kept.Got())
			points, _ = spoilt.Close()
			spoilPoints(points)
			checkState(t, name, spoilt, modelOf(given, true))
			spoil(spoilt.Got())
			checkState(t, name, spoilt, modelOf(given, true))
			k.check(t, name)
			checkState(t, name, kept, modelOf(given, true))
		}
	}
}

// No two lists of an answer share memory, also behind their ends.
func TestNoSharedLists(t *testing.T) {
	points := []api.Point{at(5, ev(3, text("a"), num(1), text("b")), ev(2, text("a"))), at(6), at(6, ev(1, num(3)), ev(0))}
	b := own() + whole(1, "") + events(points[:2]...) + events(at(4)) + events(points[2])
	s := stream.New()
	given, e := s.Give([]byte(b + yet + events(points[2])))
	closing, e2 := s.Close()
	g := s.Got()
	for _, l := range [][]api.Point{given, closing, g.Points} {
		for _, p := range l {
			for i := range p.Events {
				_ = append(p.Events[i].Args, num(77), num(78))
			}
			_ = append(p.Events, ev(80), ev(81))
		}
		_ = append(l, at(82))
	}
	for i := range g.Schema {
		_ = append(g.Schema[i].Args, 7, 8)
	}
	_, _ = append(g.Schema, pred("more")), append(g.Rejects, api.Reject{At: 83})
	checkPoints(t, "Give", given, e, points, api.OK)
	checkPoints(t, "Close", closing, e2, points[2:], api.OK)
	want := modelOf(b+yet+events(points[2]), true).got
	if told(g) != told(want) {
		t.Errorf("with things put behind its lists it is %s, want %s", told(g), told(want))
	}
}

// Streams know nothing of each other, also if one is closed and the other isn't.
func TestStreamsApart(t *testing.T) {
	rows := someBytes()
	for i, b := range rows {
		one, other := stream.Chunks([]byte(b), 13), stream.Chunks([]byte(rows[(i+3)%len(rows)]), 7)
		first, second := newPlayer(t, fmt.Sprintf("the row %d", i)), newPlayer(t, fmt.Sprintf("the row %d, the other one", i))
		none := newPlayer(t, "none")
		for n := range max(len(one), len(other)) {
			if n < len(one) {
				first.play(string(one[n]))
			}
			if n == len(one) {
				first.shut()
			}
			if n < len(other) {
				second.play(string(other[n]))
			}
			checkState(t, first.name, first.s, first.was)
			checkState(t, "none", none.s, none.was)
			checkState(t, "a new one", stream.New(), state{})
		}
		second.shut()
		none.play(b)
		none.shut()
		checkState(t, first.name, first.s, first.was)
	}
}
