package trace

import (
	"fmt"
	"math"
	"slices"
	"strings"
	"testing"

	"tachograph/api"
)

// pred is a predicate of a name and arguments' types.
func pred(name string, args ...int) api.Pred {
	return api.Pred{Name: name, Args: args}
}

// num and text are arguments of the two types.
func num(n int64) api.Arg { return api.Arg{Type: 1, N: n} }

func text(s string) api.Arg { return api.Arg{Type: 2, S: s} }

// ev is an event of a predicate's number and arguments.
func ev(p int, args ...api.Arg) api.Event {
	return api.Event{Pred: p, Args: args}
}

// at is a point of a time and events.
func at(time uint64, events ...api.Event) api.Point {
	return api.Point{At: time, Events: events}
}

// long is a text of some size.
func long(size int) string { return strings.Repeat("a", size) }

// deep is a trace in new memory, by hand.
func deep(t []api.Point) []api.Point {
	points := make([]api.Point, len(t))
	for i, p := range t {
		events := make([]api.Event, len(p.Events))
		for k, e := range p.Events {
			args := make([]api.Arg, len(e.Args))
			copy(args, e.Args)
			events[k] = api.Event{Pred: e.Pred, Args: args}
		}
		points[i] = api.Point{At: p.At, Events: events}
	}
	return points
}

// changed is a trace in new memory that was changed there.
func changed(t []api.Point, change func([]api.Point)) []api.Point {
	t = deep(t)
	change(t)
	return t
}

// told is a trace, so that no two that aren't the same are told alike.
func told(t []api.Point) string {
	var b strings.Builder
	for _, p := range t {
		fmt.Fprintf(&b, "@%d", p.At)
		for _, e := range p.Events {
			fmt.Fprintf(&b, " %d(", e.Pred)
			for _, a := range e.Args {
				fmt.Fprintf(&b, "[%d %d %+q]", a.Type, a.N, a.S)
			}
			b.WriteString(")")
		}
		b.WriteString(";")
	}
	return b.String()
}

// brief is the front of what is told, so that a failure can be read.
func brief(s string) string { return s[:min(len(s), 200)] }

// places are the first, a middle and the last one of so many.
func places(count int) []int { return []int{0, count / 2, count - 1} }

// modelArg is what may be wrong with one argument, by the chapter's words of what a trace of a signature has.
func modelArg(want int, a api.Arg) api.Errno {
	if a.Type != want {
		return api.ErrType
	}
	if want == 1 && len(a.S) > 0 || want == 2 && (a.N < 0 || a.N > 0) {
		return api.ErrArg
	}
	if len(a.S) >= 201 {
		return api.ErrLimit
	}
	return api.OK
}

// modelEvent is the chapter's Event: the fault of the least argument that has one.
func modelEvent(l []api.Pred, e api.Event) api.Errno {
	for i := range l {
		if i != e.Pred {
			continue
		}
		if len(l[i].Args) != len(e.Args) {
			return api.ErrArg
		}
		why := api.OK
		for k := len(e.Args) - 1; k >= 0; k-- {
			if fault := modelArg(l[i].Args[k], e.Args[k]); fault != api.OK {
				why = fault
			}
		}
		return why
	}
	return api.ErrName
}

// modelCheck is the chapter's Check of a signature that may be: the first fault of the least point that has one.
func modelCheck(l []api.Pred, t []api.Point) (api.Errno, int) {
	for i, p := range t {
		var faults []api.Errno
		if i > 0 && t[i-1].At > p.At {
			faults = append(faults, api.ErrOrder)
		}
		if len(p.Events) >= 1025 {
			faults = append(faults, api.ErrLimit)
		}
		for _, e := range p.Events {
			faults = append(faults, modelEvent(l, e))
		}
		for _, fault := range faults {
			if fault != api.OK {
				return fault, i
			}
		}
	}
	return api.OK, 0
}

func checkEvent(t *testing.T, l []api.Pred, e api.Event, want api.Errno) {
	t.Helper()
	if why := Event(l, e); why != want {
		t.Errorf("Event(%v, %s) = %d, want %d", l, brief(told([]api.Point{at(0, e)})), why, want)
	}
}

func checkCheck(t *testing.T, l []api.Pred, points []api.Point, want api.Errno, wantPlace int) {
	t.Helper()
	if e, place := Check(l, points); e != want || place != wantPlace {
		t.Errorf("Check(%v, %s) = %d, %d, want %d, %d", l, brief(told(points)), e, place, want, wantPlace)
	}
}

func checkSame(t *testing.T, a, b []api.Point, want bool) {
	t.Helper()
	if same := Same(a, b); same != want {
		t.Errorf("Same(%s, %s) = %t, want %t", brief(told(a)), brief(told(b)), same, want)
	}
	if same := Same(b, a); same != want {
		t.Errorf("Same(%s, %s) = %t, want %t", brief(told(b)), brief(told(a)), same, want)
	}
}

func checkCount(t *testing.T, points []api.Point, events, args, bytes int) {
	t.Helper()
	if a, b, c := Count(points); a != events || b != args || c != bytes {
		t.Errorf("Count(%s) = %d, %d, %d, want %d, %d, %d", brief(told(points)), a, b, c, events, args, bytes)
	}
}

func TestExample(t *testing.T) {
	l := []api.Pred{pred("p", api.Int)}
	checkCheck(t, l, []api.Point{at(3, ev(0, num(5))), at(2, ev(0, num(6)))}, api.ErrOrder, 1)
	checkCheck(t, l, []api.Point{at(2, ev(0, num(6))), at(3, ev(0, num(5)))}, api.OK, 0)
}

// eight is a signature of predicates with none, one and eight arguments.
func eight() []api.Pred {
	return []api.Pred{pred("none"), pred("number", 1), pred("text", 2), pred("all", 1, 2, 2, 1, 2, 1, 1, 2), pred("numbers", 1, 1, 1, 1, 1, 1, 1, 1), pred("texts", 2, 2, 2, 2, 2, 2, 2, 2)}
}

// odd are signatures that may not be, by what is wrong with them. In each eight's arguments stand ahead.
func odd() map[string][]api.Pred {
	many := eight()
	for i := range 200 {
		many = append(many, pred(fmt.Sprintf("p%d", i), 1))
	}
	nameless := eight()
	for i := range nameless {
		nameless[i].Name = ""
	}
	alike := eight()
	for i := range alike {
		alike[i].Name = "same"
	}
	return map[string][]api.Pred{
		"many":     many,
		"nameless": nameless,
		"alike":    alike,
		"digit":    append(eight(), pred("9")),
		"wide":     append(eight(), pred("wide", make([]int, 300)...)),
		"strange":  append(eight(), pred("strange", 0, 3, -1, math.MinInt, math.MaxInt)),
	}
}

// signatures are eight's, and those that may not be.
func signatures() [][]api.Pred {
	all := [][]api.Pred{eight()}
	for _, l := range odd() {
		all = append(all, l)
	}
	return all
}

// right are arguments that may stand where there are types.
func right(types []int) []api.Arg {
	var args []api.Arg
	for i, typ := range types {
		switch typ {
		case 1:
			args = append(args, num(int64(i)-3))
		case 2:
			args = append(args, text(long(i%3)))
		default:
			args = append(args, api.Arg{Type: typ})
		}
	}
	return args
}

func TestEventOfNoPredicate(t *testing.T) {
	for _, l := range append(signatures(), nil, []api.Pred{}, eight()[:1], eight()[1:2]) {
		n := len(l)
		for _, number := range []int{-1, -2, -n, -n - 1, -256, -1 << 32, math.MinInt, math.MinInt + 1, n, n + 1, n + 255, n + 1<<32, 1 << 32, math.MaxInt32, math.MaxInt - 1, math.MaxInt} {
			if number >= 0 && number < n {
				continue
			}
			for _, args := range [][]api.Arg{nil, {}, {num(1)}, {text("a")}, {{}}, {{Type: 3, N: 1, S: long(300)}}, make([]api.Arg, 9)} {
				checkEvent(t, l, ev(number, args...), api.ErrName)
			}
		}
	}
}

func TestEventThatMayBe(t *testing.T) {
	for _, l := range signatures() {
		for i := range l {
			checkEvent(t, l, ev(i, right(l[i].Args)...), api.OK)
		}
	}
	checkEvent(t, eight(), api.Event{Pred: 0, Args: nil}, api.OK)
	checkEvent(t, eight(), api.Event{Pred: 0, Args: []api.Arg{}}, api.OK)
}

// Of each predicate a number of arguments that isn't its own, whatever else is wrong with them.
func TestEventOfOtherArity(t *testing.T) {
	for _, l := range signatures() {
		for i := range l {
			own := right(l[i].Args)
			for count := range len(own) + 12 {
				if count == len(own) {
					continue
				}
				checkEvent(t, l, ev(i, slices.Repeat(append(own, num(0)), 12)[:count]...), api.ErrArg)
				checkEvent(t, l, ev(i, make([]api.Arg, count)...), api.ErrArg)
				checkEvent(t, l, ev(i, slices.Repeat([]api.Arg{{Type: 3, N: 5, S: long(201)}}, count)...), api.ErrArg)
				checkEvent(t, l, ev(i, slices.Repeat([]api.Arg{text(long(201))}, count)...), api.ErrArg)
			}
		}
	}
}

// bend is an argument where a type is the predicate's, and what is wrong with it.
type bend struct {
	arg api.Arg
	why api.Errno
}

// bends are arguments where a type is the predicate's, with all that may be wrong with one, and with nothing.
func bends(typ int) []bend {
	if typ == 2 {
		return textBends()
	}
	return numBends()
}

// numBends are those where the type is Int.
func numBends() []bend {
	return []bend{
		{num(0), api.OK},
		{num(1), api.OK},
		{num(-1), api.OK},
		{num(math.MaxInt64), api.OK},
		{num(math.MinInt64), api.OK},
		{api.Arg{Type: 2}, api.ErrType},
		{text("a"), api.ErrType},
		{api.Arg{}, api.ErrType},
		{api.Arg{Type: 0, N: 4}, api.ErrType},
		{api.Arg{Type: 3}, api.ErrType},
		{api.Arg{Type: -1}, api.ErrType},
		{api.Arg{Type: -2}, api.ErrType},
		{api.Arg{Type: 257}, api.ErrType},
		{api.Arg{Type: 1<<32 + 1}, api.ErrType},
		{api.Arg{Type: math.MinInt}, api.ErrType},
		{api.Arg{Type: math.MaxInt}, api.ErrType},
		{api.Arg{Type: 1, S: "a"}, api.ErrArg},
		{api.Arg{Type: 1, S: "\x00"}, api.ErrArg},
		{api.Arg{Type: 1, S: "1"}, api.ErrArg},
		{api.Arg{Type: 1, N: 7, S: "7"}, api.ErrArg},
		{api.Arg{Type: 1, N: -7, S: long(100)}, api.ErrArg},
		{api.Arg{Type: 1, S: long(200)}, api.ErrArg},
		// The first that is met is told, where there are two.
		{api.Arg{Type: 1, S: long(201)}, api.ErrArg},
		{api.Arg{Type: 1, N: 1, S: long(5000)}, api.ErrArg},
		{api.Arg{Type: 2, N: 1}, api.ErrType},
		{api.Arg{Type: 2, S: long(201)}, api.ErrType},
		{api.Arg{Type: 2, N: 1, S: long(201)}, api.ErrType},
		{api.Arg{Type: 0, S: "a"}, api.ErrType},
		{api.Arg{Type: 3, S: long(201)}, api.ErrType},
	}
}

// textBends are those where the type is Str.
func textBends() []bend {
	return []bend{
		{text(""), api.OK},
		{text("a"), api.OK},
		{text("\x00"), api.OK},
		{text("\xff\xc3 \"\n"), api.OK},
		{text(long(199)), api.OK},
		{text(long(200)), api.OK},
		{text(strings.Repeat("é", 100)), api.OK},
		{api.Arg{Type: 1}, api.ErrType},
		{num(5), api.ErrType},
		{api.Arg{}, api.ErrType},
		{api.Arg{Type: 0, S: "a"}, api.ErrType},
		{api.Arg{Type: 3}, api.ErrType},
		{api.Arg{Type: -1}, api.ErrType},
		{api.Arg{Type: -2}, api.ErrType},
		{api.Arg{Type: 258}, api.ErrType},
		{api.Arg{Type: 1<<32 + 2}, api.ErrType},
		{api.Arg{Type: math.MinInt}, api.ErrType},
		{api.Arg{Type: math.MaxInt}, api.ErrType},
		{api.Arg{Type: 2, N: 1}, api.ErrArg},
		{api.Arg{Type: 2, N: -1}, api.ErrArg},
		{api.Arg{Type: 2, N: 1 << 32, S: "a"}, api.ErrArg},
		{api.Arg{Type: 2, N: math.MaxInt64}, api.ErrArg},
		{api.Arg{Type: 2, N: math.MinInt64}, api.ErrArg},
		{text(long(201)), api.ErrLimit},
		{text(long(202)), api.ErrLimit},
		{text(long(256)), api.ErrLimit},
		{text(long(65736)), api.ErrLimit},
		{text(strings.Repeat("é", 101)), api.ErrLimit},
		{text("b" + strings.Repeat("é", 100)), api.ErrLimit},
		// The first that is met is told, where there are two.
		{api.Arg{Type: 2, N: 1, S: long(201)}, api.ErrArg},
		{api.Arg{Type: 2, N: -1, S: long(5000)}, api.ErrArg},
		{api.Arg{Type: 1, N: 1, S: "a"}, api.ErrType},
		{api.Arg{Type: 1, S: long(201)}, api.ErrType},
		{api.Arg{Type: 0, N: 1}, api.ErrType},
		{api.Arg{Type: 3, N: 1, S: long(201)}, api.ErrType},
	}
}

// Each fault at each argument of each predicate, the others being right.
func TestEventOfOneArgument(t *testing.T) {
	for _, l := range signatures() {
		for i, p := range eight() {
			for k, typ := range p.Args {
				for _, x := range bends(typ) {
					args := right(p.Args)
					args[k] = x.arg
					checkEvent(t, l, ev(i, args...), x.why)
				}
			}
		}
	}
}

// Of two arguments with faults the one ahead tells.
func TestEventOfTwoArguments(t *testing.T) {
	l := eight()
	for i := 3; i < len(l); i++ {
		types := l[i].Args
		for _, two := range [][2]int{{0, 1}, {0, 4}, {0, 7}, {1, 2}, {3, 5}, {4, 7}, {6, 7}} {
			for _, x := range bends(types[two[0]]) {
				for _, y := range bends(types[two[1]]) {
					args := right(types)
					args[two[0]], args[two[1]] = x.arg, y.arg
					want := x.why
					if want == api.OK {
						want = y.why
					}
					checkEvent(t, l, ev(i, args...), want)
				}
			}
		}
	}
}

// Where a signature has a type that there isn't, an argument of just that one is asked for, and just its text's size besides.
func TestEventOfStrangeTypes(t *testing.T) {
	for _, typ := range []int{0, 3, -1, 257, 258, math.MinInt, math.MaxInt} {
		l := []api.Pred{pred("p", 1, typ, 2)}
		for _, x := range []bend{
			{api.Arg{Type: typ}, api.OK},
			{api.Arg{Type: typ, N: 5}, api.OK},
			{api.Arg{Type: typ, S: "a"}, api.OK},
			{api.Arg{Type: typ, N: -5, S: long(200)}, api.OK},
			{api.Arg{Type: typ, S: long(201)}, api.ErrLimit},
			{api.Arg{Type: typ, N: 1, S: long(3000)}, api.ErrLimit},
			{num(0), api.ErrType},
			{text(""), api.ErrType},
			{api.Arg{Type: 2, S: long(201)}, api.ErrType},
			{api.Arg{Type: typ ^ 1}, api.ErrType},
		} {
			checkEvent(t, l, ev(0, num(1), x.arg, text("")), x.why)
		}
	}
}

// Each type of a predicate with arguments of each type, number and text.
func TestAllArguments(t *testing.T) {
	types := []int{-1, 0, 1, 2, 3}
	numbers := []int64{math.MinInt64, -1, 0, 1, math.MaxInt64}
	sizes := []int{0, 1, 199, 200, 201, 400}
	for _, own := range types {
		l := []api.Pred{pred("", own), pred("", 1, own)}
		for _, typ := range types {
			for _, n := range numbers {
				for _, size := range sizes {
					arg := api.Arg{Type: typ, N: n, S: long(size)}
					checkEvent(t, l, ev(0, arg), modelArg(own, arg))
					checkEvent(t, l, ev(1, num(n), arg), modelArg(own, arg))
				}
			}
		}
	}
}

// wrongs are events that eight has none of, and why.
func wrongs() []struct {
	e   api.Event
	why api.Errno
} {
	return []struct {
		e   api.Event
		why api.Errno
	}{
		{ev(-1), api.ErrName},
		{ev(6), api.ErrName},
		{ev(math.MaxInt, num(1)), api.ErrName},
		{ev(0, num(1)), api.ErrArg},
		{ev(1), api.ErrArg},
		{ev(1, num(1), num(2)), api.ErrArg},
		{ev(3, right([]int{1, 2, 2, 1, 2, 1, 1})...), api.ErrArg},
		{ev(1, text("")), api.ErrType},
		{ev(2, num(0)), api.ErrType},
		{ev(2, api.Arg{}), api.ErrType},
		{ev(1, api.Arg{Type: 1, S: "a"}), api.ErrArg},
		{ev(2, api.Arg{Type: 2, N: 1}), api.ErrArg},
		{ev(2, text(long(201))), api.ErrLimit},
	}
}

// rightEvents are as many events that eight has, through all its predicates.
func rightEvents(count int) []api.Event {
	l := eight()
	var events []api.Event
	for i := range count {
		events = append(events, ev(i%len(l), right(l[i%len(l)].Args)...))
	}
	return events
}

// rightTrace is a trace of eight: so many points, two at each time, with so many events each.
func rightTrace(points, events int) []api.Point {
	var t []api.Point
	for i := range points {
		t = append(t, at(uint64(i/2), rightEvents(events)...))
	}
	return t
}

func TestCheckOfFew(t *testing.T) {
	for _, l := range [][]api.Pred{nil, {}, eight(), {pred("p")}} {
		for _, points := range [][]api.Point{nil, {}, make([]api.Point, 0, 9), {{}}, {{}, {}, {}}, {at(5)}, {{At: 7, Events: []api.Event{}}}, {at(5), at(5), at(9), at(math.MaxUint64)}} {
			checkCheck(t, l, points, api.OK, 0)
		}
	}
	checkCheck(t, nil, []api.Point{at(0, ev(0))}, api.ErrName, 0)
	checkCheck(t, nil, []api.Point{at(0), at(0, ev(0))}, api.ErrName, 1)
	for points := range 8 {
		for events := range 8 {
			checkCheck(t, eight(), rightTrace(points, events), api.OK, 0)
		}
	}
}

// A signature that may not be is told ahead of all, of any trace.
func TestCheckOfNoSignature(t *testing.T) {
	traces := [][]api.Point{
		nil,
		{},
		{at(5)},
		rightTrace(3, 3),
		{at(5), at(4)},
		{at(5), at(5, make([]api.Event, 1025)...), at(4, make([]api.Event, 1025)...)},
	}
	for _, x := range wrongs() {
		traces = append(traces, []api.Point{at(1), at(1, x.e)})
	}
	for name, why := range map[string]api.Errno{"many": api.ErrLimit, "nameless": api.ErrName, "alike": api.ErrName, "digit": api.ErrName, "wide": api.ErrLimit, "strange": api.ErrType} {
		for _, points := range traces {
			checkCheck(t, odd()[name], points, why, 0)
		}
	}
	for _, points := range traces {
		checkCheck(t, []api.Pred{pred("")}, points, api.ErrName, 0)
		checkCheck(t, []api.Pred{pred("p"), pred("q", 2, 3)}, points, api.ErrType, 0)
		checkCheck(t, []api.Pred{pred("p", make([]int, 9)...)}, points, api.ErrLimit, 0)
		checkCheck(t, append(eight(), pred("all")), points, api.ErrName, 0)
		checkCheck(t, make([]api.Pred, 65), points, api.ErrLimit, 0)
	}
}

// times is a trace of points without events.
func times(all ...uint64) []api.Point {
	var t []api.Point
	for _, time := range all {
		t = append(t, at(time))
	}
	return t
}

func TestCheckOfTimes(t *testing.T) {
	const most = math.MaxUint64
	for _, x := range []struct {
		t     []api.Point
		why   api.Errno
		place int
	}{
		{times(0), api.OK, 0},
		{times(most), api.OK, 0},
		{times(0, 0), api.OK, 0},
		{times(most, most), api.OK, 0},
		{times(0, most), api.OK, 0},
		{times(5, 5, 5, 5), api.OK, 0},
		{times(0, 1, 1, 1<<63-1, 1<<63, 1<<63, most-1, most), api.OK, 0},
		{times(1, 0), api.ErrOrder, 1},
		{times(most, 0), api.ErrOrder, 1},
		{times(most, most-1), api.ErrOrder, 1},
		{times(1<<63, 1<<63-1), api.ErrOrder, 1},
		{times(1<<63, 0), api.ErrOrder, 1},
		{times(1<<32, 1<<32-1), api.ErrOrder, 1},
		{times(5, 4, 6), api.ErrOrder, 1},
		{times(5, 4, 3, 2), api.ErrOrder, 1},
		{times(5, 5, 4), api.ErrOrder, 2},
		{times(5, 9, 6), api.ErrOrder, 2},
		{times(5, 4, 9, 6), api.ErrOrder, 1},
		{times(1, 2, 3, 2, 1), api.ErrOrder, 3},
		{times(1, 2, 3, 3, 2), api.ErrOrder, 4},
		{times(0, most, most, 1, most), api.ErrOrder, 3},
	} {
		checkCheck(t, eight(), x.t, x.why, x.place)
	}
}

// A time below the one ahead at each place of a longer trace.
func TestCheckOfEachTime(t *testing.T) {
	for place := 1; place < 50; place++ {
		points := rightTrace(50, 2)
		for i := range points {
			points[i].At += 1000
		}
		points[place].At = points[place-1].At - 1
		checkCheck(t, eight(), points, api.ErrOrder, place)
		points[place].At = 0
		checkCheck(t, eight(), points, api.ErrOrder, place)
	}
}

func TestCheckOfManyEvents(t *testing.T) {
	for _, place := range places(5) {
		for _, count := range []int{1, 1023, 1024} {
			points := rightTrace(5, 1)
			points[place].Events = rightEvents(count)
			checkCheck(t, eight(), points, api.OK, 0)
		}
		for _, count := range []int{1025, 1026, 2048, 5000} {
			points := rightTrace(5, 1)
			points[place].Events = rightEvents(count)
			checkCheck(t, eight(), points, api.ErrLimit, place)
		}
	}
	// Each point may have that many, and as many points as one likes may be.
	checkCheck(t, eight(), rightTrace(9, 1024), api.OK, 0)
	checkCheck(t, eight(), rightTrace(3000, 1), api.OK, 0)
	checkCheck(t, eight(), slices.Concat(rightTrace(2, 1024), []api.Point{at(9, rightEvents(1025)...)}), api.ErrLimit, 2)
}

// Each of Event's errors at the first, a middle and the last event of the first, a middle and the last point.
func TestCheckOfEvents(t *testing.T) {
	for _, x := range wrongs() {
		checkEvent(t, eight(), x.e, x.why)
		for _, place := range places(5) {
			for _, event := range places(7) {
				points := rightTrace(5, 7)
				points[place].Events[event] = x.e
				checkCheck(t, eight(), points, x.why, place)
			}
		}
		points := rightTrace(2, 1024)
		points[1].Events[1023] = x.e
		checkCheck(t, eight(), points, x.why, 1)
		checkCheck(t, eight(), []api.Point{at(0, x.e)}, x.why, 0)
	}
}

// A point's faults: its time is told first, how many events it has next, then what is wrong with the first event that may not be.
func TestCheckOfTwoFaultsInAPoint(t *testing.T) {
	l := eight()
	many := rightEvents(1025)
	checkCheck(t, l, []api.Point{at(5), at(4, many...)}, api.ErrOrder, 1)
	checkCheck(t, l, []api.Point{at(5), at(4, make([]api.Event, 5000)...)}, api.ErrOrder, 1)
	for _, x := range wrongs() {
		checkCheck(t, l, []api.Point{at(5), at(4, x.e)}, api.ErrOrder, 1)
		for _, event := range places(1025) {
			events := slices.Clone(many)
			events[event] = x.e
			checkCheck(t, l, []api.Point{at(5), at(5, events...)}, api.ErrLimit, 1)
			checkCheck(t, l, []api.Point{at(5), at(4, events...)}, api.ErrOrder, 1)
		}
		for _, y := range wrongs() {
			checkCheck(t, l, []api.Point{at(5, ev(0), x.e, ev(0), y.e)}, x.why, 0)
			checkCheck(t, l, []api.Point{at(5), at(5, x.e, y.e)}, x.why, 1)
		}
	}
}

// faults are points that may not stand behind one at 5, and why.
func faults() []struct {
	p   api.Point
	why api.Errno
} {
	all := []struct {
		p   api.Point
		why api.Errno
	}{
		{at(4), api.ErrOrder},
		{at(5, rightEvents(1025)...), api.ErrLimit},
		{at(3, rightEvents(1025)...), api.ErrOrder},
	}
	for _, x := range wrongs() {
		all = append(all, struct {
			p   api.Point
			why api.Errno
		}{at(5, x.e), x.why})
	}
	return all
}

// Of faults of two points the one ahead tells, whichever they are.
func TestCheckOfTwoPoints(t *testing.T) {
	for _, x := range faults() {
		for _, y := range faults() {
			checkCheck(t, eight(), []api.Point{at(5), x.p, y.p}, x.why, 1)
			checkCheck(t, eight(), []api.Point{at(5, ev(0)), at(5), x.p, at(6), y.p, at(9)}, x.why, 2)
		}
		checkCheck(t, eight(), []api.Point{at(5), at(5), x.p}, x.why, 2)
	}
}

// pieces are points that may be, and that may not, in some order.
func pieces() []api.Point {
	var all []api.Point
	for _, time := range []uint64{4, 5, 6} {
		all = append(all, at(time), at(time, ev(0), ev(1, num(2))), at(time, ev(2, text("ab")), ev(7)), at(time, ev(2, text(long(201)))), at(time, rightEvents(1025)...), at(time, ev(1)))
	}
	return all
}

// All traces of up to three pieces, against the chapter's words.
func TestCheckOfAllTraces(t *testing.T) {
	l := eight()
	all := [][]api.Point{nil}
	for from := 0; len(all[from]) < 3; from++ {
		for _, p := range pieces() {
			all = append(all, append(slices.Clone(all[from]), p))
		}
	}
	for _, points := range all {
		want, place := modelCheck(l, points)
		checkCheck(t, l, points, want, place)
	}
}

// some is a trace of three points, with three events each, of which the middle ones have three arguments.
func some() []api.Point {
	var t []api.Point
	for i := range 3 {
		args := []api.Arg{num(int64(i)), text("ab"), num(-5)}
		t = append(t, at(uint64(10*i), ev(0), ev(1, args...), ev(2, args[:1]...)))
	}
	return t
}

// argChanges change one argument, each in another way.
func argChanges() []func(*api.Arg) {
	return []func(*api.Arg){
		func(a *api.Arg) { a.Type = 3 - a.Type },
		func(a *api.Arg) { a.Type = 0 },
		func(a *api.Arg) { a.Type = -a.Type },
		func(a *api.Arg) { a.Type += 1 << 32 },
		func(a *api.Arg) { a.N++ },
		func(a *api.Arg) { a.N += math.MinInt64 },
		func(a *api.Arg) { a.N += 1 << 32 },
		func(a *api.Arg) { a.S += "c" },
		func(a *api.Arg) { a.S += "\x00" },
		func(a *api.Arg) { a.S = "b" + a.S },
		func(a *api.Arg) { *a = api.Arg{} },
	}
}

// listChanges change one point's time, its list of events, or one event's predicate or list of arguments, each in another way.
func listChanges(i, k int) []func([]api.Point) {
	return []func([]api.Point){
		func(t []api.Point) { t[i].At++ },
		func(t []api.Point) { t[i].At += 1 << 63 },
		func(t []api.Point) { t[i].At += 1 << 32 },
		func(t []api.Point) { t[i].Events = nil },
		func(t []api.Point) { t[i].Events = t[i].Events[1:] },
		func(t []api.Point) { t[i].Events = t[i].Events[:2] },
		func(t []api.Point) { t[i].Events = append(t[i].Events, api.Event{}) },
		func(t []api.Point) { t[i].Events = append(t[i].Events, t[i].Events[2]) },
		func(t []api.Point) { t[i].Events = append([]api.Event{{}}, t[i].Events...) },
		func(t []api.Point) { t[i].Events[0], t[i].Events[2] = t[i].Events[2], t[i].Events[0] },
		func(t []api.Point) { t[i].Events[k].Pred = 7 },
		func(t []api.Point) { t[i].Events[k].Pred = -1 - t[i].Events[k].Pred },
		func(t []api.Point) { t[i].Events[k].Pred += 1 << 32 },
		func(t []api.Point) { t[i].Events[k].Args = append(t[i].Events[k].Args, api.Arg{}) },
		func(t []api.Point) { t[i].Events[k].Args = append(t[i].Events[k].Args, num(1)) },
		func(t []api.Point) { t[i].Events[k].Args = append([]api.Arg{text("ab")}, t[i].Events[k].Args...) },
	}
}

// Two traces that are unlike in just one thing, wherever it stands, aren't the same.
func TestSameOfOneChange(t *testing.T) {
	unlike := func(change func([]api.Point)) {
		t.Helper()
		other := changed(some(), change)
		checkSame(t, some(), other, false)
		checkSame(t, other, deep(other), true)
	}
	for i := range 3 {
		for k := range 3 {
			for _, change := range listChanges(i, k) {
				unlike(change)
			}
		}
		for _, change := range argChanges() {
			for arg := range 3 {
				unlike(func(t []api.Point) { change(&t[i].Events[1].Args[arg]) })
			}
			unlike(func(t []api.Point) { change(&t[i].Events[2].Args[0]) })
		}
		for arg := range 3 {
			unlike(func(t []api.Point) { t[i].Events[1].Args = slices.Delete(t[i].Events[1].Args, arg, arg+1) })
		}
		unlike(func(t []api.Point) { t[i].Events[2].Args = nil })
		unlike(func(t []api.Point) { t[i] = api.Point{At: 77} })
	}
}

func TestSameOfPoints(t *testing.T) {
	points := some()
	checkSame(t, points, points, true)
	checkSame(t, points, deep(points), true)
	for _, other := range [][]api.Point{
		nil,
		{},
		points[:1],
		points[:2],
		points[1:],
		{points[0], points[2]},
		{points[1], points[0], points[2]},
		{points[0], points[2], points[1]},
		slices.Concat(points, points),
		append(slices.Clone(points), api.Point{}),
		append(slices.Clone(points), points[2]),
		append([]api.Point{{}}, points...),
	} {
		checkSame(t, points, other, false)
		checkSame(t, other, other, true)
		checkSame(t, other, deep(other), true)
	}
	// The same events in points that are parted elsewhere, and the same arguments in other events, aren't the same.
	checkSame(t, []api.Point{at(1, ev(0), ev(0)), at(1)}, []api.Point{at(1, ev(0)), at(1, ev(0))}, false)
	checkSame(t, []api.Point{at(1, ev(0, num(1), num(1)), ev(0))}, []api.Point{at(1, ev(0, num(1)), ev(0, num(1)))}, false)
}

func TestSameOfNone(t *testing.T) {
	none := [][]api.Point{nil, {}, make([]api.Point, 0, 9), some()[:0]}
	for _, a := range none {
		for _, b := range none {
			checkSame(t, a, b, true)
		}
		checkSame(t, a, []api.Point{{}}, false)
	}
	noEvents := [][]api.Event{nil, {}, make([]api.Event, 0, 9), rightEvents(3)[:0]}
	for _, a := range noEvents {
		for _, b := range noEvents {
			checkSame(t, []api.Point{{At: 3, Events: a}}, []api.Point{{At: 3, Events: b}}, true)
			checkSame(t, []api.Point{{Events: a}, at(1, ev(1)), {Events: b}}, []api.Point{{Events: b}, at(1, ev(1)), {Events: a}}, true)
		}
		checkSame(t, []api.Point{{At: 3, Events: a}}, []api.Point{at(3, api.Event{})}, false)
	}
	noArgs := [][]api.Arg{nil, {}, make([]api.Arg, 0, 9), right([]int{1, 1})[:0]}
	for _, a := range noArgs {
		for _, b := range noArgs {
			checkSame(t, []api.Point{at(3, ev(1), api.Event{Pred: 2, Args: a})}, []api.Point{at(3, ev(1), api.Event{Pred: 2, Args: b})}, true)
		}
		checkSame(t, []api.Point{at(3, api.Event{Pred: 2, Args: a})}, []api.Point{at(3, ev(2, api.Arg{}))}, false)
	}
}

// wild are traces of no signature.
func wild() [][]api.Point {
	bent := api.Arg{Type: -7, N: math.MinInt64, S: long(5000)}
	return [][]api.Point{
		times(9, 8, 7, math.MaxUint64, 0),
		{at(5, ev(-1)), at(4, ev(math.MaxInt, bent, api.Arg{}))},
		{at(1, ev(math.MinInt, slices.Repeat([]api.Arg{bent, {Type: 1, S: "a"}, {Type: 2, N: 1}}, 100)...))},
		{at(3, make([]api.Event, 1025)...), at(2, rightEvents(2000)...)},
		{at(0, ev(9, text("\xff"), text("\xfe")))},
		{at(0, ev(9, text("\xfe"), text("\xff")))},
		{at(0, ev(9, text("a"), text("")))},
		{at(0, ev(9, text(""), text("a")))},
		slices.Repeat([]api.Point{{}}, 300),
		slices.Repeat([]api.Point{{}}, 301),
	}
}

func TestSameOfAnyTraces(t *testing.T) {
	for i, a := range wild() {
		for k, b := range wild() {
			checkSame(t, a, b, i == k)
		}
		checkSame(t, a, some(), false)
	}
	all := wild()[3]
	for _, event := range places(2000) {
		checkSame(t, all, changed(all, func(t []api.Point) { t[1].Events[event].Pred = -5 }), false)
	}
}

// Each trace of up to two small points against each.
func TestSameOfAllTraces(t *testing.T) {
	events := []api.Event{ev(0), ev(1), ev(0, num(0)), ev(0, api.Arg{}), ev(0, text("")), ev(0, num(0), num(0))}
	var points []api.Point
	for _, time := range []uint64{0, 1} {
		points = append(points, at(time))
		for _, e := range events {
			points = append(points, at(time, e), at(time, events[0], e))
		}
	}
	few := [][]api.Point{nil}
	for _, p := range points {
		few = append(few, []api.Point{p})
		for _, q := range points {
			few = append(few, []api.Point{p, q})
		}
	}
	for _, a := range few {
		for _, b := range few {
			if same := Same(a, b); same != (told(a) == told(b)) {
				t.Errorf("Same(%s, %s) = %t", told(a), told(b), same)
			}
		}
	}
}

func TestClone(t *testing.T) {
	all := append(wild(), some(), rightTrace(5, 7), []api.Point{{}}, []api.Point{{Events: []api.Event{}}}, []api.Point{at(1, api.Event{Args: []api.Arg{}})}, []api.Point{at(1, ev(0)), {}})
	for _, points := range all {
		c := Clone(points)
		if len(c) != len(points) || told(c) != told(points) {
			t.Errorf("Clone(%s) = %s", brief(told(points)), brief(told(c)))
		}
		checkSame(t, points, c, true)
	}
	for _, points := range [][]api.Point{nil, {}, make([]api.Point, 0, 9), some()[:0]} {
		if c := Clone(points); len(c) != 0 {
			t.Errorf("Clone of none = %s", told(c))
		}
	}
}

// roomy is a trace whose lists have room behind, with what stands there: its points, events and arguments stand in one list each.
func roomy() (t, points []api.Point, events []api.Event, args []api.Arg) {
	args = []api.Arg{num(1), text("a"), num(7), text("b"), num(8), num(9)}
	events = []api.Event{{Pred: 0, Args: args[:2]}, {Pred: 1, Args: args[3:3]}, {Pred: 2, Args: args[3:4]}, {Pred: 3, Args: args[1:3]}, ev(4)}
	points = []api.Point{{At: 5, Events: events[:2]}, {At: 6, Events: events[1:1]}, {At: 7, Events: events[2:4]}, at(8, ev(9))}
	return points[:3], points, events, args
}

// scribble writes all over a trace, and behind each of its lists.
func scribble(t []api.Point) {
	for i := range t {
		for k := range t[i].Events {
			args := t[i].Events[k].Args
			for m := range args {
				args[m] = api.Arg{Type: -9, N: -9, S: "scribbled"}
			}
			_ = append(args, num(-8), num(-7))
			t[i].Events[k] = ev(-6, num(-5))
		}
		_ = append(t[i].Events, ev(-4), ev(-3))
		t[i] = at(999, ev(-2))
	}
	_ = append(t, at(998), at(997))
}

func TestCloneIsNewMemory(t *testing.T) {
	points, all, events, args := roomy()
	want, wantAll, wantEvents, wantArgs := told(points), told(all), told([]api.Point{at(0, events...)}), slices.Clone(args)
	first, second := Clone(points), Clone(points)
	scribble(first)
	if told(points) != want || told(all) != wantAll || told([]api.Point{at(0, events...)}) != wantEvents || !slices.Equal(args, wantArgs) {
		t.Errorf("with its clone written into, it is %s, and in memory %s, %v", told(points), told(all), args)
	}
	if told(second) != want {
		t.Errorf("two clones share memory: %s", told(second))
	}
	scribble(points)
	scribble(all)
	if told(second) != want {
		t.Errorf("with the first one written into, its clone is %s", told(second))
	}
	third := Clone(second)
	scribble(second)
	if told(third) != want {
		t.Errorf("with a clone written into, its own clone is %s", told(third))
	}
}

// No two lists of one clone share memory, nor does one end where another one may be written into.
func TestListsOfACloneShareNothing(t *testing.T) {
	shared := []api.Arg{num(1), text("a"), num(2)}
	twice := []api.Event{ev(0, shared...), ev(1, shared[:2]...), ev(2, shared[1:]...), ev(3)}
	points := []api.Point{at(1, twice...), {At: 2, Events: twice}, {At: 3, Events: twice[1:]}, {At: 4, Events: twice[:2]}, at(5)}
	want := told(points)
	for i := range points {
		for k := range points[i].Events {
			c := Clone(points)
			args := c[i].Events[k].Args
			_ = append(args, slices.Repeat([]api.Arg{num(9)}, 9)...)
			for m := range args {
				args[m] = num(9)
			}
			c[i].Events[k].Args = points[i].Events[k].Args
			if told(c) != want {
				t.Errorf("with the arguments of %d, %d written into, it is %s", i, k, told(c))
			}
		}
		c := Clone(points)
		_ = append(c[i].Events, slices.Repeat([]api.Event{ev(9)}, 9)...)
		for k := range c[i].Events {
			c[i].Events[k] = ev(9)
		}
		c[i].Events = points[i].Events
		if told(c) != want {
			t.Errorf("with the events of %d written into, it is %s", i, told(c))
		}
	}
	if told(points) != want || !slices.Equal(shared, []api.Arg{num(1), text("a"), num(2)}) {
		t.Errorf("what was handed in became %s, %v", told(points), shared)
	}
}

func TestCount(t *testing.T) {
	checkCount(t, nil, 0, 0, 0)
	checkCount(t, []api.Point{}, 0, 0, 0)
	checkCount(t, make([]api.Point, 0, 9), 0, 0, 0)
	checkCount(t, []api.Point{{}}, 0, 0, 0)
	checkCount(t, times(5, 6, 7), 0, 0, 0)
	checkCount(t, []api.Point{at(1, ev(0))}, 1, 0, 0)
	checkCount(t, []api.Point{at(1, ev(0), ev(0)), at(2), at(3, ev(1), ev(2), ev(0))}, 5, 0, 0)
	checkCount(t, []api.Point{at(1, ev(0, num(1)))}, 1, 1, 0)
	checkCount(t, []api.Point{at(1, ev(0, num(math.MaxInt64)), ev(0, num(2), num(3)))}, 2, 3, 0)
	checkCount(t, []api.Point{at(1, ev(0, text("")))}, 1, 1, 0)
	checkCount(t, []api.Point{at(1, ev(0, text("a")))}, 1, 1, 1)
	checkCount(t, []api.Point{at(1, ev(0, text("é")))}, 1, 1, 2)
	checkCount(t, []api.Point{at(1, ev(0, text("\xff\x00")))}, 1, 1, 2)
	checkCount(t, []api.Point{at(1, ev(0, text(long(200))))}, 1, 1, 200)
	checkCount(t, []api.Point{at(1, ev(0, text("ab"), num(5), text("abc")), ev(1)), at(1), at(2, ev(0, text("ab")))}, 3, 4, 7)
	checkCount(t, some(), 9, 12, 6)
	checkCount(t, rightTrace(1000, 6), 6000, 26000, 12000)
}

// Of any trace all is counted, whatever it is.
func TestCountOfAnyTrace(t *testing.T) {
	checkCount(t, []api.Point{at(9, ev(-1, api.Arg{Type: 1, N: 3, S: "abc"}), ev(math.MaxInt, api.Arg{Type: 7, S: "de"}, api.Arg{})), at(2, ev(0, api.Arg{S: long(5000)}))}, 3, 4, 5005)
	for _, points := range wild() {
		events, args, bytes := 0, 0, 0
		for i := range points {
			events += len(points[i].Events)
			for k := range points[i].Events {
				args += len(points[i].Events[k].Args)
				for m := range points[i].Events[k].Args {
					bytes += len(points[i].Events[k].Args[m].S)
				}
			}
		}
		checkCount(t, points, events, args, bytes)
	}
}

// What is counted is the same, whichever points and events it stands in.
func TestCountOfParts(t *testing.T) {
	points := append(some(), rightTrace(20, 9)...)
	events, args, bytes := Count(points)
	for i := range points {
		a, b, c := Count(points[:i])
		d, e, f := Count(points[i:])
		if a+d != events || b+e != args || c+f != bytes {
			t.Errorf("parted at %d: %d, %d, %d, and %d, %d, %d", i, a, b, c, d, e, f)
		}
	}
}

func TestLeavesWhatIsHandedIn(t *testing.T) {
	points, all, events, args := roomy()
	wantAll, wantEvents, wantArgs := told(all), told([]api.Point{at(0, events...)}), slices.Clone(args)
	l := append(eight(), pred("behind", 2))[:6]
	wantSig := fmt.Sprint(l[:7])
	for _, x := range append(wild(), points, some()) {
		want := told(x)
		for range 2 {
			Check(l, x)
			for _, p := range x {
				for _, e := range p.Events {
					Event(l, e)
				}
			}
			Same(x, points)
			Same(points, x)
			Clone(x)
			Count(x)
		}
		if told(x) != want {
			t.Errorf("%s became %s", brief(want), brief(told(x)))
		}
	}
	if told(all) != wantAll || told([]api.Point{at(0, events...)}) != wantEvents || !slices.Equal(args, wantArgs) || fmt.Sprint(l[:7]) != wantSig {
		t.Errorf("what stands behind became %s, %v, %v", told(all), args, l[:7])
	}
}

// Nothing is kept from call to call: what is answered hangs on the lists as they are.
func TestKeepsNothing(t *testing.T) {
	l := []api.Pred{pred("p", 1), pred("q", 2)}
	points := []api.Point{at(5, ev(0, num(1))), at(6, ev(1, text("ab")))}
	c := Clone(points)
	for range 3 {
		checkCheck(t, l, points, api.OK, 0)
		checkSame(t, points, c, true)
		checkCount(t, points, 2, 2, 2)
		points[1].At = 4
		checkCheck(t, l, points, api.ErrOrder, 1)
		checkSame(t, points, c, false)
		points[1].At = 6
		points[1].Events[0].Args[0] = num(5)
		checkCheck(t, l, points, api.ErrType, 1)
		checkEvent(t, l, points[1].Events[0], api.ErrType)
		checkCount(t, points, 2, 2, 0)
		l[1].Args[0] = 1
		checkCheck(t, l, points, api.OK, 0)
		checkEvent(t, l, points[1].Events[0], api.OK)
		l[1].Args[0] = 3
		checkCheck(t, l, points, api.ErrType, 0)
		l[1].Args[0], points[1].Events[0].Args[0] = 2, text("ab")
	}
}

// What is in memory behind a list's end is none of it.
func TestNotBeyondTheEnd(t *testing.T) {
	points, _, _, _ := roomy()
	checkCount(t, points, 4, 5, 3)
	checkCount(t, points[:2], 2, 2, 1)
	l := []api.Pred{pred("p", 1, 2), pred("q"), pred("r", 2), pred("s", 2, 1), pred("9")}
	checkCheck(t, l[:4], points, api.OK, 0)
	checkCheck(t, l[:3], points, api.ErrName, 2)
	checkCheck(t, l[:2], points, api.ErrName, 2)
	checkCheck(t, l[:2], points[:2], api.OK, 0)
	checkEvent(t, l[:4], ev(4), api.ErrName)
	checkSame(t, points[:1], []api.Point{at(5, ev(0, num(1), text("a")), ev(1))}, true)
}

// What hands on events and arguments stops as soon as it is told to.
func TestHandingOnStops(t *testing.T) {
	points := some()
	for most := 1; most <= 9; most++ {
		seen := 0
		for range eventsOf(points...) {
			if seen++; seen == most {
				break
			}
		}
		if seen != most {
			t.Errorf("%d events, want %d", seen, most)
		}
	}
	for most := 1; most <= 12; most++ {
		seen := 0
		for range argsOf(points...) {
			if seen++; seen == most {
				break
			}
		}
		if seen != most {
			t.Errorf("%d arguments, want %d", seen, most)
		}
	}
}
