package dict

import (
	"fmt"
	"math"
	"slices"
	"strings"
	"testing"

	"tachograph/api"
)

// num and text are arguments of the two types.
func num(n int64) api.Arg { return api.Arg{Type: 1, N: n} }

func text(s string) api.Arg { return api.Arg{Type: 2, S: s} }

// ev is an event of a predicate's number and arguments.
func ev(p int, args ...api.Arg) api.Event {
	return api.Event{Pred: p, Args: args}
}

// at is a point of a time and events.
func at(time uint64, events ...api.Event) api.Point {
	return api.Point{At: time, Events: events}
}

// placeOf is where a text stands in a list first, which is gone through; -1, if it doesn't.
func placeOf(l []string, s string) int {
	for i := range l {
		if l[i] == s {
			return i
		}
	}
	return -1
}

// modelPut is what a list is behind a Put of a text, and the text's number.
func modelPut(l []string, s string) ([]string, int) {
	if i := placeOf(l, s); i >= 0 {
		return l, i
	}
	return append(slices.Clone(l), s), len(l)
}

// firsts are the texts of a list, each where it came first.
func firsts(l []string) []string {
	var first []string
	for _, s := range l {
		first, _ = modelPut(first, s)
	}
	return first
}

// checkPut asks Put for a number.
func checkPut(t *testing.T, d *Dict, s string, want int) {
	t.Helper()
	if i := d.Put(s); i != want {
		t.Errorf("Put(%.60q) = %d, want %d", s, i, want)
	}
}

// checkFind asks Find for the place in a list.
func checkFind(t *testing.T, d *Dict, s string, l []string) {
	t.Helper()
	i, found := d.Find(s)
	place := placeOf(l, s)
	if found != (place >= 0) || i != max(place, 0) {
		t.Errorf("Find(%.60q) = %d, %v, with the place %d", s, i, found, place)
	}
}

// checkText asks Text for what stands in a list.
func checkText(t *testing.T, d *Dict, i int, l []string) {
	t.Helper()
	s, found := d.Text(i)
	if i < 0 || i >= len(l) {
		if s != "" || found {
			t.Errorf("Text(%d) = %.60q, %v of %d texts", i, s, found, len(l))
		}
		return
	}
	if s != l[i] || !found {
		t.Errorf("Text(%d) = %.60q, %v, want %.60q", i, s, found, l[i])
	}
}

// checkAll asks All for a list.
func checkAll(t *testing.T, d *Dict, l []string) {
	t.Helper()
	if all := d.All(); !slices.Equal(all, l) {
		t.Errorf("All() = %.200q, want %.200q", all, l)
	}
}

// strangers are texts that are in no list of these tests.
func strangers() []string {
	return []string{"no such text", "\x00\x00no", strings.Repeat("no", 500)}
}

// farNumbers are numbers of no text, whatever the texts are that these tests have.
func farNumbers() []int {
	return []int{-1, -2, -256, math.MinInt32, math.MinInt, math.MinInt + 1, 1 << 20, math.MaxInt32, 1 << 32, math.MaxInt - 1, math.MaxInt}
}

// checkDict asks a dictionary for all that is in it, and for what isn't.
func checkDict(t *testing.T, d *Dict, l []string) {
	t.Helper()
	checkAll(t, d, l)
	for i, s := range l {
		checkFind(t, d, s, l)
		checkText(t, d, i, l)
	}
	for _, s := range strangers() {
		checkFind(t, d, s, l)
	}
	for _, i := range append(farNumbers(), len(l), len(l)+1) {
		checkText(t, d, i, l)
	}
	checkAll(t, d, l)
}

// holding is a dictionary into which texts were put.
func holding(l ...string) *Dict {
	d := New()
	for _, s := range l {
		d.Put(s)
	}
	return d
}

// The chapter's example.
func TestExample(t *testing.T) {
	d := New()
	for i, s := range []string{"a", "b", "a"} {
		checkPut(t, d, s, []int{0, 1, 0}[i])
	}
	checkDict(t, d, []string{"a", "b"})
}

func TestNew(t *testing.T) {
	if New() == nil {
		t.Fatal("New() = nil")
	}
	checkDict(t, New(), nil)
	checkFind(t, New(), "", nil)
	checkText(t, New(), 0, nil)
	if all := New().All(); len(all) != 0 {
		t.Errorf("All() = %q", all)
	}
}

// step is one call, told by what it is and what it is given.
type step struct {
	call byte
	s    string
	i    int
}

// steps are calls on a dictionary of few texts.
func steps() []step {
	l := []step{{call: 'A'}}
	for _, s := range []string{"", "a", "b"} {
		l = append(l, step{call: 'P', s: s}, step{call: 'F', s: s})
	}
	for i := -1; i <= 3; i++ {
		l = append(l, step{call: 'T', i: i})
	}
	return l
}

// take does one call, and answers what the list is behind it.
func take(t *testing.T, d *Dict, x step, l []string) []string {
	switch x.call {
	case 'A':
		checkAll(t, d, l)
	case 'F':
		checkFind(t, d, x.s, l)
	case 'T':
		checkText(t, d, x.i, l)
	case 'P':
		next, want := modelPut(l, x.s)
		checkPut(t, d, x.s, want)
		return next
	}
	return l
}

// All orders of up to five calls: each row of calls goes on a dictionary of its own.
func TestAllOrdersOfCalls(t *testing.T) {
	calls := steps()
	var run func(row []step, more int)
	run = func(row []step, more int) {
		d, l := New(), []string(nil)
		for _, x := range row {
			l = take(t, d, x, l)
		}
		if t.Failed() {
			t.Fatalf("at the calls %q", fmt.Sprint(row))
		}
		if more == 0 {
			return
		}
		for _, x := range calls {
			run(append(slices.Clone(row), x), more-1)
		}
	}
	run(nil, 5)
}

// All orders of up to six Puts, with every question behind each.
func TestAllOrdersOfPuts(t *testing.T) {
	texts := []string{"", "a", "b", "ab"}
	var run func(row []string, more int)
	run = func(row []string, more int) {
		d, l, want := New(), []string(nil), 0
		for _, s := range row {
			l, want = modelPut(l, s)
			checkPut(t, d, s, want)
			checkDict(t, d, l)
			for _, other := range texts {
				checkFind(t, d, other, l)
			}
		}
		if t.Failed() {
			t.Fatalf("at Puts of %q", row)
		}
		if more == 0 {
			return
		}
		for _, s := range texts {
			run(append(slices.Clone(row), s), more-1)
		}
	}
	run(nil, 6)
}

// hardTexts are texts that may be taken for one another: no two are the same.
func hardTexts() []string {
	long := strings.Repeat("x", 5000)
	l := []string{
		"", " ", "  ", "\n", "a", "A", "aa", "ab", "aB", "Ab", "AB", "abc", "abd", "abcd", "ab\x00", "\x00ab",
		"\x00\x00", "\x00\x00\x00", "0", "00", "1", "01", "-1", "é", "e\u0301", "É", "\xc3", "\xc3\xa9\xc3", "\xa9",
		"\xff\xff", "\xff\xfe", "\xc0\x80", "\xed\xa0\x80", "\ufffd", "\ufeff", "\xf4\x90\x80\x80", "\xc3\x28",
		long, long[1:], long + "x", long + "y", "y" + long, long[:4999] + "y", "y" + long[1:], long + long,
		strings.Repeat("\x00", 4096), strings.Repeat("\x00", 4097), strings.Repeat("é", 200), strings.Repeat("é", 201),
		strings.Repeat("z", 200), strings.Repeat("z", 201), strings.Repeat("z", 70000),
	}
	for b := range 256 {
		l = append(l, string([]byte{byte(b)}), string([]byte{'q', byte(b)}), string([]byte{byte(b), 'q'}))
	}
	return firsts(l)
}

// Texts that may be taken for one another have numbers of their own, in whichever order they come.
func TestHardTexts(t *testing.T) {
	there := hardTexts()
	back := slices.Clone(there)
	slices.Reverse(back)
	for _, l := range [][]string{there, back} {
		d := New()
		for i, s := range l {
			checkFind(t, d, s, l[:i])
			checkPut(t, d, s, i)
			checkPut(t, d, s, i)
		}
		checkDict(t, d, l)
		for i, s := range l {
			checkPut(t, d, s, i)
		}
		checkDict(t, d, l)
	}
}

// One text alone: no other one is in the dictionary.
func TestOneHardText(t *testing.T) {
	texts := hardTexts()
	for _, s := range texts {
		d := holding(s)
		for _, other := range texts {
			checkFind(t, d, other, []string{s})
		}
		checkDict(t, d, []string{s})
	}
}

// Texts of the same bytes are the same, wherever these lie.
func TestSameBytesElsewhere(t *testing.T) {
	for _, s := range hardTexts() {
		d := holding("first", s)
		again := string(append([]byte("!"), s...))[1:]
		checkPut(t, d, again, 1)
		checkFind(t, d, again, []string{"first", s})
		checkAll(t, d, []string{"first", s})
	}
}

// Many texts, each of which comes again right behind itself, and far later.
func TestManyTexts(t *testing.T) {
	const many = 20000
	d, l := New(), make([]string, many)
	for i := range many {
		l[i] = fmt.Sprintf("text %d", i*7919)
		checkPut(t, d, l[i], i)
		checkPut(t, d, l[i], i)
		checkPut(t, d, l[i/2], i/2)
		checkPut(t, d, l[0], 0)
	}
	checkAll(t, d, l)
	for i, s := range l {
		if n, found := d.Find(s); n != i || !found {
			t.Fatalf("Find(%q) = %d, %v, want %d", s, n, found, i)
		}
		if back, found := d.Text(i); back != s || !found {
			t.Fatalf("Text(%d) = %q, %v, want %q", i, back, found, s)
		}
	}
	checkText(t, d, many, l)
	checkText(t, d, -1, l)
	for i := many - 1; i >= 0; i-- {
		checkPut(t, d, l[i], i)
	}
	checkAll(t, d, l)
}

// The same text put in many times is one.
func TestOneTextManyTimes(t *testing.T) {
	for _, s := range []string{"", "a", "\xff", strings.Repeat("long", 1000)} {
		d := New()
		for range 1000 {
			checkPut(t, d, s, 0)
		}
		checkDict(t, d, []string{s})
	}
}

// What isn't in it is answered by 0 and false, and is not put in by that.
func TestFindOfNone(t *testing.T) {
	for _, l := range [][]string{nil, {"Text"}, {"Text", "b", "", "\xc3\xa9"}} {
		d := holding(l...)
		for _, s := range []string{"", "text", "TEXT", "Tex", "Text ", " Text", "Texu", "Uext", "Text\x00", "B", "\xc3", "\xc3\xa8", "\xc3\xa9\xa9", "\x00"} {
			for range 3 {
				checkFind(t, d, s, l)
			}
		}
		checkDict(t, d, l)
		checkPut(t, d, "next", len(l))
	}
}

// Text of any number of none, also where there are many.
func TestTextOfNone(t *testing.T) {
	for _, count := range []int{0, 1, 2, 255, 256, 257, 1000} {
		var l []string
		for i := range count {
			l = append(l, fmt.Sprint("t", i))
		}
		d := holding(l...)
		for i := -300; i < count+300; i++ {
			checkText(t, d, i, l)
		}
		for _, i := range farNumbers() {
			checkText(t, d, i, l)
			checkText(t, d, i+count, l)
			checkText(t, d, i-count, l)
		}
		checkPut(t, d, "next", count)
	}
}

// Whoever writes into what All answers, or appends to it, changes nothing.
func TestAllIsNewMemory(t *testing.T) {
	for count := range 70 {
		var l []string
		for i := range count {
			l = append(l, fmt.Sprint("t", i))
		}
		d := holding(l...)
		one, two := d.All(), d.All()
		for i := range one {
			one[i] = "written"
		}
		one = append(one, "appended", "appended")
		if !slices.Equal(two, l) {
			t.Fatalf("what one All answered is written into by another's: %q", two)
		}
		checkDict(t, d, l)
		checkFind(t, d, "written", l)
		checkFind(t, d, "appended", l)
		checkPut(t, d, "put", count)
		l = append(l, "put")
		checkDict(t, d, l)
		if count > 0 && one[0] != "written" || one[count] != "appended" {
			t.Fatalf("a Put is seen in what All answered: %q", one)
		}
	}
}

// What All answered stays as it was, whatever is put in later.
func TestAllStays(t *testing.T) {
	d := New()
	var answers [][]string
	var l []string
	for i := range 300 {
		answers = append(answers, d.All())
		l = append(l, fmt.Sprint("t", i))
		d.Put(l[i])
	}
	for i, all := range answers {
		if !slices.Equal(all, l[:i]) {
			t.Fatalf("All() of %d texts is %.200q behind more Puts", i, all)
		}
		// There may be no room behind it that another answer has, too.
		_ = append(all, "appended")
	}
	for i, all := range answers {
		if !slices.Equal(all, l[:i]) {
			t.Fatalf("All() of %d texts shares room with another answer", i)
		}
	}
	checkDict(t, d, l)
}

// What is put into one dictionary isn't in another.
func TestTwoDictionaries(t *testing.T) {
	a, b := New(), New()
	checkPut(t, a, "x", 0)
	checkFind(t, b, "x", nil)
	checkDict(t, b, nil)
	checkPut(t, b, "y", 0)
	checkPut(t, a, "y", 1)
	checkPut(t, b, "z", 1)
	checkPut(t, b, "x", 2)
	checkDict(t, a, []string{"x", "y"})
	checkDict(t, b, []string{"y", "z", "x"})
	points := []api.Point{at(0, ev(0, text("y")))}
	c, e := Of(points), Of(points)
	checkPut(t, c, "c", 1)
	checkDict(t, e, []string{"y"})
	checkDict(t, c, []string{"y", "c"})
	checkDict(t, New(), nil)
	checkDict(t, a, []string{"x", "y"})
}

// checkOf asks Of for the texts of points, and that numbers go on behind them.
func checkOf(t *testing.T, points []api.Point, l ...string) {
	t.Helper()
	d := Of(points)
	if d == nil {
		t.Fatalf("Of(%v) = nil", points)
	}
	checkDict(t, d, l)
	checkPut(t, d, "put behind", len(l))
	if len(l) > 0 {
		checkPut(t, d, l[0], 0)
	}
	checkDict(t, d, append(slices.Clone(l), "put behind"))
	checkAll(t, Of(points), l)
}

func TestOfNothing(t *testing.T) {
	checkOf(t, nil)
	checkOf(t, []api.Point{})
	checkOf(t, []api.Point{{}})
	checkOf(t, []api.Point{at(5), at(3), {At: 7, Events: []api.Event{}}})
	checkOf(t, []api.Point{at(5, ev(0)), at(3, ev(1), api.Event{Pred: 2, Args: []api.Arg{}})})
	checkOf(t, []api.Point{at(5, ev(0, num(1), num(2)), ev(1, num(3)))})
}

// Just arguments of the type Str have texts of the trace's.
func TestOfTypes(t *testing.T) {
	for _, typ := range []int{1, 0, 3, 4, -1, -2, 18, 34, 258, 1<<32 + 2, math.MinInt, math.MaxInt} {
		other := api.Arg{Type: typ, N: 2, S: "other"}
		none := api.Arg{Type: typ}
		checkOf(t, []api.Point{at(0, ev(0, other))})
		checkOf(t, []api.Point{at(0, ev(0, other, text("a"), other, none, text("b"), other))}, "a", "b")
		checkOf(t, []api.Point{at(0, ev(0, other)), at(0, ev(0, text("a"), other))}, "a")
		checkOf(t, []api.Point{at(0, ev(0, none)), at(0, ev(0, none, text("other"), other))}, "other")
	}
	// Of a Str its text counts, whatever its number is.
	checkOf(t, []api.Point{at(0, ev(0, api.Arg{Type: 2, N: 5, S: "a"}, api.Arg{Type: 2, N: -6, S: "a"}))}, "a")
}

// Points of no signature, and of no order of times, have a dictionary, too.
func TestOfAnyPoints(t *testing.T) {
	huge := strings.Repeat("x", 10000)
	points := []api.Point{
		at(math.MaxUint64, ev(-1, text("a")), ev(math.MaxInt, text(""))),
		at(0, ev(math.MinInt, text(huge), text("\xff"))),
		at(5, ev(0, slices.Repeat([]api.Arg{text("many")}, 50)...)),
		at(5, slices.Repeat([]api.Event{ev(0, text("events"))}, 2000)...),
	}
	checkOf(t, points, "a", "", huge, "\xff", "many", "events")
}

// The order is point by point, event by event, argument by argument.
func TestOfOrder(t *testing.T) {
	checkOf(t, []api.Point{at(0, ev(0, text("c"), text("a"), text("b")))}, "c", "a", "b")
	checkOf(t, []api.Point{at(0, ev(5, text("c")), ev(1, text("a")), ev(3, text("b")))}, "c", "a", "b")
	checkOf(t, []api.Point{at(9, ev(0, text("c"))), at(3, ev(0, text("a"))), at(6, ev(0, text("b")))}, "c", "a", "b")
	checkOf(t, []api.Point{
		at(0, ev(0, text("h"), text("g")), ev(0, text("f"), text("e"))),
		at(0, ev(0, text("d"), text("c")), ev(0, text("b"), text("a"))),
	}, "h", "g", "f", "e", "d", "c", "b", "a")
	// With none of any sort in between.
	checkOf(t, []api.Point{
		at(0), at(0, ev(0), ev(0, num(1), text("b"), num(2))), at(0), at(0, ev(1, num(3)), ev(0, text("a"))),
	}, "b", "a")
}

// A text that comes again is there once, where it came first.
func TestOfTextsThatComeAgain(t *testing.T) {
	checkOf(t, []api.Point{at(0, ev(0, text("b"), text("a"), text("b"), text("b"), text("a"), text("c")))}, "b", "a", "c")
	checkOf(t, []api.Point{at(0, ev(0, text("b")), ev(0, text("b"), text("a")), ev(1, text("b"), text("c"), text("a")))}, "b", "a", "c")
	checkOf(t, []api.Point{at(0, ev(0, text("b"))), at(1, ev(0, text("a"), text("b"))), at(2, ev(0, text("b"), text("c")), ev(0, text("a")))}, "b", "a", "c")
}

// A Str without a text has the empty one.
func TestOfEmptyText(t *testing.T) {
	checkOf(t, []api.Point{at(0, ev(0, text("")))}, "")
	checkOf(t, []api.Point{at(0, ev(0, text("a"), text(""), text("")))}, "a", "")
	checkOf(t, []api.Point{at(0, ev(0, text("")), ev(0, text("a"))), at(0, ev(0, text("")))}, "", "a")
}

// parted are points of texts, so many arguments in each event and so many events in each point.
func parted(l []string, args, events int) []api.Point {
	var points []api.Point
	for part := range slices.Chunk(l, args*events) {
		var p api.Point
		for piece := range slices.Chunk(part, args) {
			var e api.Event
			for _, s := range piece {
				e.Args = append(e.Args, text(s))
			}
			p.Events = append(p.Events, e)
		}
		points = append(points, p)
	}
	return points
}

// The dictionary of texts is the same, however these are parted in points and events.
func TestOfPartedTexts(t *testing.T) {
	var l []string
	for i := range 60 {
		l = append(l, fmt.Sprint(i*i%17), fmt.Sprint(i))
	}
	for args := 1; args <= 9; args++ {
		for events := 1; events <= 9; events++ {
			checkOf(t, parted(l, args, events), firsts(l)...)
		}
	}
	checkOf(t, parted(hardTexts(), 8, 10), hardTexts()...)
}

// First come: of each text of All, Find answers its place, and Text that text, behind any Puts and behind Of.
func TestThereAndBack(t *testing.T) {
	var l []string
	state := 1
	for range 3000 {
		state = state * 48271 % math.MaxInt32
		l = append(l, strings.Repeat("k", state%3)+fmt.Sprint(state%400))
	}
	put := New()
	var want []string
	for _, s := range l {
		number := 0
		want, number = modelPut(want, s)
		checkPut(t, put, s, number)
	}
	for _, d := range []*Dict{put, Of(parted(l, 3, 4)), holding(put.All()...), Of(parted(put.All(), 2, 1))} {
		checkDict(t, d, want)
		for place, s := range d.All() {
			i, found := d.Find(s)
			back, there := d.Text(i)
			if i != place || !found || back != s || !there {
				t.Fatalf("of %q at %d: Find answers %d, %v, and Text of that %q, %v", s, place, i, found, back, there)
			}
		}
	}
}

// checkRuns asks Runs for numbers, and holds them against how many events there are.
func checkRuns(t *testing.T, l []api.Event, want ...int) {
	t.Helper()
	runs := Runs(l)
	if !slices.Equal(runs, want) {
		t.Errorf("Runs(%.300s) = %v, want %v", fmt.Sprint(l), runs, want)
	}
	sum := 0
	for _, n := range runs {
		sum += n
		if n < 1 {
			t.Errorf("Runs(%.300s) = %v", fmt.Sprint(l), runs)
		}
	}
	if sum != len(l) {
		t.Errorf("Runs(%.300s) has %d events", fmt.Sprint(l), sum)
	}
}

// sized is an event of a predicate's number and so many arguments.
func sized(p, args int) api.Event {
	return ev(p, slices.Repeat([]api.Arg{num(1)}, args)...)
}

func TestRunsOfFew(t *testing.T) {
	checkRuns(t, nil)
	checkRuns(t, []api.Event{})
	checkRuns(t, []api.Event{{}}, 1)
	checkRuns(t, []api.Event{{}, {Args: []api.Arg{}}}, 2)
	checkRuns(t, []api.Event{sized(3, 2)}, 1)
}

func TestRunsOfAlike(t *testing.T) {
	for _, count := range []int{1, 2, 3, 255, 256, 257, 1024, 70000} {
		for _, e := range []api.Event{sized(0, 0), sized(0, 1), sized(5, 0), sized(-1, 8)} {
			checkRuns(t, slices.Repeat([]api.Event{e}, count), count)
		}
	}
}

func TestRunsOfUnlike(t *testing.T) {
	var l []api.Event
	for p := 40; p > -40; p-- {
		for args := range 12 {
			l = append(l, sized(p, args))
		}
	}
	checkRuns(t, l, slices.Repeat([]int{1}, len(l))...)
	slices.Reverse(l)
	checkRuns(t, l, slices.Repeat([]int{1}, len(l))...)
	checkRuns(t, append(l, l...), slices.Repeat([]int{2}, len(l))...)
}

// Shapes that come again with others in between count on where they came first.
func TestRunsThatComeAgain(t *testing.T) {
	a, b, c := sized(7, 1), sized(2, 3), sized(4, 0)
	checkRuns(t, []api.Event{a, b, a}, 2, 1)
	checkRuns(t, []api.Event{a, b, b, a, b}, 2, 3)
	checkRuns(t, []api.Event{b, a, c, a, a, c, b, a}, 2, 4, 2)
	checkRuns(t, []api.Event{c, c, a, c, b, b, b, c}, 4, 1, 3)
	var l []api.Event
	for i := range 1000 {
		l = append(l, sized(900-i%10*100, i%10%3))
	}
	checkRuns(t, l, slices.Repeat([]int{100}, 10)...)
}

// Another number of arguments, or another predicate, is another shape; arguments are of no shape.
func TestRunsOfShapes(t *testing.T) {
	checkRuns(t, []api.Event{sized(0, 1), sized(0, 2), sized(0, 1), sized(0, 0)}, 2, 1, 1)
	checkRuns(t, []api.Event{sized(0, 2), sized(1, 2), sized(1, 2), sized(2, 2)}, 1, 2, 1)
	// What may be taken for one another, where the two numbers are made one.
	checkRuns(t, []api.Event{sized(1, 2), sized(2, 1)}, 1, 1)
	checkRuns(t, []api.Event{sized(1, 0), sized(0, 1)}, 1, 1)
	checkRuns(t, []api.Event{sized(1, 11), sized(11, 1), sized(0, 111), sized(111, 0)}, 1, 1, 1, 1)
	checkRuns(t, []api.Event{sized(0, 256), sized(1, 0), sized(0, 9), sized(1, 1), sized(0, 8), sized(1, 8)}, 1, 1, 1, 1, 1, 1)
	checkRuns(t, []api.Event{
		ev(0, num(1), num(2)), ev(0, text("a"), num(2)), ev(0, text("b"), text("b")), ev(0, api.Arg{Type: 9}, api.Arg{}),
		ev(0, num(1)), ev(0, text("a")), ev(0, text(strings.Repeat("x", 9999))),
	}, 4, 3)
}

// Numbers of predicates that no signature has.
func TestRunsOfStrangePredicates(t *testing.T) {
	strange := []int{-1, 0, 1, -2, 64, 1 << 32, 1<<32 + 1, -1 << 32, math.MaxInt32, math.MinInt32, math.MaxInt, math.MinInt, math.MaxInt - 1}
	var l []api.Event
	var want []int
	for i, p := range strange {
		l = append(l, slices.Repeat([]api.Event{sized(p, 1)}, i+1)...)
		want = append(want, i+1)
	}
	checkRuns(t, l, want...)
}

// modelRuns counts events of each shape by lists that are gone through.
func modelRuns(l []api.Event) []int {
	var runs []int
	for i, e := range l {
		count, first := 0, true
		for k, other := range l {
			if other.Pred == e.Pred && len(other.Args) == len(e.Args) {
				count++
				first = first && k >= i
			}
		}
		if first {
			runs = append(runs, count)
		}
	}
	return runs
}

// All lists of up to six events of four shapes.
func TestRunsOfAllLists(t *testing.T) {
	shapes := []api.Event{sized(0, 0), sized(0, 1), sized(1, 0), sized(1, 1)}
	var run func(l []api.Event, more int)
	run = func(l []api.Event, more int) {
		checkRuns(t, l, modelRuns(l)...)
		if more == 0 {
			return
		}
		for _, e := range shapes {
			run(append(slices.Clone(l), e), more-1)
		}
	}
	run(nil, 6)
}

// What Runs answers is new memory.
func TestRunsIsNewMemory(t *testing.T) {
	l := []api.Event{sized(0, 1), sized(1, 1), sized(0, 1)}
	one, two := Runs(l), Runs(l)
	one[0] = 77
	_ = append(one[:1], 78)
	if !slices.Equal(two, []int{2, 1}) {
		t.Errorf("an answer of Runs is written into by another's: %v", two)
	}
	checkRuns(t, l, 2, 1)
}

// scene are points in which each list has room behind its end, with what is there.
func scene() []api.Point {
	points := []api.Point{
		at(3, ev(0, text("a"), num(5), text("b"), text("behind")), ev(1, text("a")), ev(2, text("behind"))),
		at(3, ev(0, text("c"), num(5), text("a"), text("behind"))),
		at(9, ev(3, text("behind"))),
	}
	points[0].Events[0].Args = points[0].Events[0].Args[:3]
	points[1].Events[0].Args = points[1].Events[0].Args[:3]
	points[0].Events = points[0].Events[:2]
	return points[:2]
}

// whole are points with all that is behind the ends of their lists.
func whole(points []api.Point) string {
	var told strings.Builder
	for _, p := range points[:cap(points)] {
		for _, e := range p.Events[:cap(p.Events)] {
			fmt.Fprintf(&told, "%d %d %q;", p.At, e.Pred, fmt.Sprint(e.Args[:cap(e.Args)]))
		}
	}
	return told.String()
}

// What is handed in stays as it was, and what is behind the ends of lists isn't gone to.
func TestLeavesWhatIsHandedIn(t *testing.T) {
	points := scene()
	was := whole(points)
	checkOf(t, points, "a", "b", "c")
	checkRuns(t, points[0].Events, 1, 1)
	if now := whole(points); now != was {
		t.Errorf("points are %s, were %s", now, was)
	}
}

// Whoever writes into points later changes nothing in their dictionary.
func TestKeepsNothing(t *testing.T) {
	points := scene()
	d := Of(points)
	runs := Runs(points[0].Events)
	for i := range points {
		for k := range points[i].Events {
			for n := range points[i].Events[k].Args {
				points[i].Events[k].Args[n] = text("written")
			}
			points[i].Events[k] = ev(9, text("written"))
		}
		points[i] = at(0, ev(9, text("written")))
	}
	checkDict(t, d, []string{"a", "b", "c"})
	checkFind(t, d, "written", []string{"a", "b", "c"})
	if !slices.Equal(runs, []int{1, 1}) {
		t.Errorf("what Runs answered is %v", runs)
	}
}

// Texts that were made of bytes stay as they were, when the bytes are written into.
func TestKeepsNoBytes(t *testing.T) {
	b := []byte("text")
	d := New()
	checkPut(t, d, string(b), 0)
	b[0] = 'n'
	checkPut(t, d, string(b), 1)
	checkDict(t, d, []string{"text", "next"})
}
