package sig

import (
	"fmt"
	"math"
	"slices"
	"strings"
	"testing"

	"tachograph/api"
)

const (
	digits  = "0123456789"
	letters = "ABCDEFGHIJKLMNOPQRSTUVWXYZabcdefghijklmnopqrstuvwxyz_"
)

// pred is a predicate of a name and arguments.
func pred(name string, args ...int) api.Pred {
	return api.Pred{Name: name, Args: args}
}

// long is a name of some size.
func long(size int) string { return strings.Repeat("a", size) }

// numbered are predicates without arguments, of names that are all unlike.
func numbered(count int) []api.Pred {
	var l []api.Pred
	for i := range count {
		l = append(l, pred(fmt.Sprintf("p%d", i)))
	}
	return l
}

// with is a list in which other predicates stand from a place on.
func with(l []api.Pred, at int, other ...api.Pred) []api.Pred {
	l = slices.Clone(l)
	copy(l[at:], other)
	return l
}

// deep is a list in new memory, by hand.
func deep(l []api.Pred) []api.Pred {
	fresh := make([]api.Pred, len(l))
	for i := range l {
		fresh[i].Name = l[i].Name
		fresh[i].Args = make([]int, len(l[i].Args))
		copy(fresh[i].Args, l[i].Args)
	}
	return fresh
}

// told is a list, so that no two that aren't the same are told alike.
func told(l []api.Pred) string {
	s := ""
	for _, p := range l {
		s += fmt.Sprintf("%q%v ", p.Name, p.Args)
	}
	return s
}

// modelName is the chapter's Name, by a list of all bytes that may be.
func modelName(s string) bool {
	if s == "" || len(s) > 32 || strings.Contains(digits, s[:1]) {
		return false
	}
	return strings.Trim(s, digits+letters) == ""
}

// modelCheck is the chapter's Check, each name held against all ahead.
func modelCheck(l []api.Pred) api.Errno {
	if len(l) > 64 {
		return api.ErrLimit
	}
	for i, p := range l {
		if !modelName(p.Name) || slices.ContainsFunc(l[:i], func(q api.Pred) bool { return q.Name == p.Name }) {
			return api.ErrName
		}
		if len(p.Args) > 8 {
			return api.ErrLimit
		}
		if slices.ContainsFunc(p.Args, func(arg int) bool { return arg != 1 && arg != 2 }) {
			return api.ErrType
		}
	}
	return api.OK
}

func checkCheck(t *testing.T, l []api.Pred, want api.Errno) {
	t.Helper()
	if e := Check(l); e != want {
		t.Errorf("Check(%s) = %d, want %d", told(l), e, want)
	}
}

func checkFind(t *testing.T, l []api.Pred, name string, want int, wantFound bool) {
	t.Helper()
	if at, found := Find(l, name); at != want || found != wantFound {
		t.Errorf("Find(%s, %q) = %d, %t, want %d, %t", told(l), name, at, found, want, wantFound)
	}
}

func checkSame(t *testing.T, a, b []api.Pred, want bool) {
	t.Helper()
	if same := Same(a, b); same != want {
		t.Errorf("Same(%s, %s) = %t, want %t", told(a), told(b), same, want)
	}
	if same := Same(b, a); same != want {
		t.Errorf("Same(%s, %s) = %t, want %t", told(b), told(a), same, want)
	}
}

func TestExample(t *testing.T) {
	checkCheck(t, []api.Pred{pred("p", api.Int), pred("q", api.Int)}, api.OK)
	checkCheck(t, []api.Pred{pred("p"), pred("p")}, api.ErrName)
	checkCheck(t, []api.Pred{pred("p", api.Int), pred("p", api.Int)}, api.ErrName)
}

func TestName(t *testing.T) {
	for _, s := range []string{"a", "z", "A", "Z", "_", "__", "_0", "a0", "a9", "Z_9", "_9_", "snake_case", "CamelCase", "nil", "int", long(2), long(31), long(32), "_" + strings.Repeat("9", 31), letters[:32], letters[21:]} {
		if !Name(s) {
			t.Errorf("%q is no name", s)
		}
	}
	for _, s := range []string{"", "0", "9", "0a", "9_", "12", " ", " a", "a ", "a b", "a-b", "-a", "a.b", "a(", "a\n", "a\x00", "\x00", "é", "aé", "é_", "ａ", "a\xff", "\xc3", long(33), long(34), long(200), long(65536), "9" + long(31), "_" + strings.Repeat("9", 32), long(31) + " ", long(31) + "é", letters, digits} {
		if Name(s) {
			t.Errorf("%q is a name", s)
		}
	}
}

func TestNameOfEachByte(t *testing.T) {
	for c := range 256 {
		one := string([]byte{byte(c)})
		letter := strings.Contains(letters, one)
		may := letter || strings.Contains(digits, one)
		for _, x := range []struct {
			s    string
			want bool
		}{
			{one, letter},
			{one + "a", letter},
			{one + long(31), letter},
			{one + long(32), false},
			{"a" + one, may},
			{"_" + one, may},
			{"a" + one + "b", may},
			{long(30) + one + "b", may},
			{long(31) + one, may},
			{long(32) + one, false},
			{"7" + one, false},
		} {
			if Name(x.s) != x.want {
				t.Errorf("Name(%q) = %t", x.s, !x.want)
			}
		}
	}
}

// All texts of two bytes, against a list of those that may be.
func TestNameOfTwoBytes(t *testing.T) {
	for i := range 256 * 256 {
		s := string([]byte{byte(i), byte(i >> 8)})
		if Name(s) != modelName(s) {
			t.Errorf("Name(%q) = %t", s, Name(s))
		}
	}
}

func TestNameOfEachSize(t *testing.T) {
	for size := range 100 {
		if Name(long(size)) != (size >= 1 && size <= 32) {
			t.Errorf("Name of %d bytes = %t", size, Name(long(size)))
		}
	}
}

func TestCheckOfFew(t *testing.T) {
	for _, l := range [][]api.Pred{
		nil,
		{},
		{pred("p")},
		{{Name: "p", Args: nil}},
		{{Name: "p", Args: []int{}}},
		{pred("p", api.Int)},
		{pred("p", api.Str)},
		{pred("p", api.Int, api.Str, api.Int)},
		{pred("p"), pred("q")},
		{pred("p", api.Int), pred("P", api.Int), pred("p_", api.Int), pred("_p", api.Int), pred("p0", api.Int)},
		{pred(long(31)), pred(long(32)), pred(long(30))},
	} {
		checkCheck(t, l, api.OK)
	}
}

func TestCheckOfManyPredicates(t *testing.T) {
	for _, count := range []int{1, 2, 31, 63, 64} {
		checkCheck(t, numbered(count), api.OK)
	}
	for _, count := range []int{65, 66, 128, 1000} {
		checkCheck(t, numbered(count), api.ErrLimit)
	}
}

// Of too many predicates that is told, whatever else is wrong, and wherever.
func TestTooManyPredicatesComeFirst(t *testing.T) {
	l := numbered(65)
	for _, wrong := range []api.Pred{pred(""), pred("9a"), pred("p1"), pred(long(33)), pred("x", make([]int, 9)...), pred("x", 3), {}} {
		for _, at := range []int{0, 2, 63, 64} {
			checkCheck(t, with(l, at, wrong), api.ErrLimit)
		}
	}
	checkCheck(t, make([]api.Pred, 65), api.ErrLimit)
	checkCheck(t, make([]api.Pred, 64), api.ErrName)
	checkCheck(t, slices.Repeat([]api.Pred{pred("p")}, 65), api.ErrLimit)
	checkCheck(t, slices.Repeat([]api.Pred{pred("p")}, 64), api.ErrName)
}

func TestCheckOfManyArguments(t *testing.T) {
	for count := range 20 {
		for _, arg := range []int{api.Int, api.Str} {
			want := api.OK
			if count > 8 {
				want = api.ErrLimit
			}
			p := pred("p", slices.Repeat([]int{arg}, count)...)
			checkCheck(t, []api.Pred{p}, want)
			checkCheck(t, []api.Pred{pred("a", api.Int), p, pred("b")}, want)
		}
	}
	full := slices.Repeat([]int{api.Int, api.Str}, 4)
	l := numbered(64)
	for i := range l {
		l[i].Args = full
	}
	checkCheck(t, l, api.OK)
	l[63].Args = append(slices.Clone(full), api.Int)
	checkCheck(t, l, api.ErrLimit)
}

func TestCheckOfTypes(t *testing.T) {
	types := []int{math.MinInt, math.MinInt + 1, math.MinInt32, -256, -255, -254, -3, -2, -1, 0, 1, 2, 3, 4, 5, 127, 255, 256, 257, 258, 65537, 65538, 1 << 31, 1<<32 + 1, 1<<32 + 2, math.MaxInt - 1, math.MaxInt}
	for _, arg := range types {
		want := api.ErrType
		if arg == 1 || arg == 2 {
			want = api.OK
		}
		for count := 1; count <= 8; count++ {
			for at := range count {
				args := slices.Repeat([]int{api.Int, api.Str}, 4)[:count]
				args[at] = arg
				checkCheck(t, []api.Pred{pred("p", args...)}, want)
				checkCheck(t, []api.Pred{pred("a"), pred("b", api.Str), pred("p", args...), pred("c")}, want)
			}
		}
	}
}

func TestCheckOfNames(t *testing.T) {
	for _, name := range []string{"", "0", "9a", "a-b", "a b", " a", "é", "a\x00", "\xff", long(33)} {
		for _, at := range []int{0, 1, 30, 63} {
			checkCheck(t, with(numbered(64), at, pred(name)), api.ErrName)
			checkCheck(t, with(numbered(64), at, pred(name, api.Int)), api.ErrName)
		}
	}
}

// Two of the same name may not be, wherever they stand, and whatever their arguments are.
func TestCheckOfTheSameName(t *testing.T) {
	l := numbered(64)
	for _, two := range [][2]api.Pred{
		{pred("x"), pred("x")},
		{pred("x", api.Int), pred("x", api.Int)},
		{pred("x", api.Int), pred("x", api.Str)},
		{pred("x", api.Int), pred("x")},
		{pred("x"), pred("x", api.Str)},
		{pred("x", api.Int), pred("x", api.Int, api.Int)},
		{pred(long(32), api.Int, api.Str), pred(long(32), api.Str, api.Int)},
	} {
		for _, at := range [][2]int{{0, 1}, {62, 63}, {0, 63}, {20, 40}} {
			once := with(l, at[0], two[0])
			checkCheck(t, once, api.OK)
			checkCheck(t, with(once, at[1], two[1]), api.ErrName)
		}
		checkCheck(t, two[:], api.ErrName)
		checkCheck(t, []api.Pred{two[0], two[1], two[0]}, api.ErrName)
	}
	for at := 1; at < 64; at++ {
		checkCheck(t, with(l, at, pred("p0", api.Int)), api.ErrName)
	}
	for at := range 63 {
		checkCheck(t, with(l, at, pred("p63", api.Int)), api.ErrName)
	}
}

// Names that differ in one byte, in one bit of it, or in their size, aren't the same.
func TestCheckOfLikeNames(t *testing.T) {
	for at := range 32 {
		name := []byte(long(32))
		name[at] = 'A'
		checkCheck(t, []api.Pred{pred(long(32)), pred(string(name))}, api.OK)
		name[at] = 'b'
		checkCheck(t, []api.Pred{pred(long(32)), pred(string(name))}, api.OK)
		name[at] = 'a'
		checkCheck(t, []api.Pred{pred(long(32)), pred(string(name))}, api.ErrName)
	}
	var l []api.Pred
	for size := 1; size <= 32; size++ {
		l = append(l, pred(long(size)))
	}
	checkCheck(t, l, api.OK)
}

// What is wrong is told predicate by predicate, of one its name first, then how many arguments it has, then their types.
func TestCheckOfManyFaults(t *testing.T) {
	nine := slices.Repeat([]int{3}, 9)
	good, name, many, kind := pred("g"), pred("9"), pred("m", slices.Repeat([]int{1}, 9)...), pred("k", 3)
	for _, x := range []struct {
		l    []api.Pred
		want api.Errno
	}{
		{[]api.Pred{pred("9", nine...)}, api.ErrName},
		{[]api.Pred{pred("9", nine[1:]...)}, api.ErrName},
		{[]api.Pred{pred("9", slices.Repeat([]int{1}, 9)...)}, api.ErrName},
		{[]api.Pred{pred("p", nine...)}, api.ErrLimit},
		{[]api.Pred{pred("p", nine[1:]...)}, api.ErrType},
		{[]api.Pred{pred("p", 3, 1, 1, 1, 1, 1, 1, 1, 1)}, api.ErrLimit},
		{[]api.Pred{good, pred("g", nine...)}, api.ErrName},
		{[]api.Pred{good, pred("g", nine[1:]...)}, api.ErrName},
		{[]api.Pred{name, many, kind}, api.ErrName},
		{[]api.Pred{name, kind, many}, api.ErrName},
		{[]api.Pred{many, name, kind}, api.ErrLimit},
		{[]api.Pred{many, kind, name}, api.ErrLimit},
		{[]api.Pred{kind, name, many}, api.ErrType},
		{[]api.Pred{kind, many, name}, api.ErrType},
		{[]api.Pred{good, kind, name, many}, api.ErrType},
		{[]api.Pred{good, many, good}, api.ErrLimit},
		{[]api.Pred{good, kind, good}, api.ErrType},
		{[]api.Pred{good, good, kind}, api.ErrName},
		{[]api.Pred{kind, kind}, api.ErrType},
		{[]api.Pred{many, many}, api.ErrLimit},
		{[]api.Pred{kind, {}}, api.ErrType},
		{[]api.Pred{{}, kind}, api.ErrName},
	} {
		checkCheck(t, x.l, x.want)
	}
}

// pieces are predicates that may be and that may not, some of the same name.
func pieces() []api.Pred {
	return []api.Pred{
		pred("p"),
		pred("p", api.Str),
		pred("q", slices.Repeat([]int{api.Int}, 8)...),
		pred("q", slices.Repeat([]int{api.Str}, 9)...),
		pred("r", api.Int, 3),
		pred("r", 0),
		pred(""),
		pred("", api.Int),
		pred("8", make([]int, 9)...),
		pred(long(32), api.Int),
		pred(long(33), -1),
	}
}

// lists are all lists of up to four pieces.
func lists() [][]api.Pred {
	all := [][]api.Pred{nil}
	for from := 0; len(all[from]) < 4; from++ {
		for _, p := range pieces() {
			all = append(all, append(slices.Clone(all[from]), p))
		}
	}
	return all
}

func TestAllLists(t *testing.T) {
	names := []string{"", "p", "q", "r", "8", "s", "P", long(31), long(32), long(33)}
	for _, l := range lists() {
		checkCheck(t, l, modelCheck(l))
		for _, name := range names {
			want := slices.IndexFunc(l, func(p api.Pred) bool { return p.Name == name })
			checkFind(t, l, name, max(want, 0), want >= 0)
		}
		c := Clone(l)
		if told(c) != told(l) || len(c) != len(l) {
			t.Errorf("Clone(%s) = %s", told(l), told(c))
		}
		checkSame(t, l, c, true)
	}
}

func TestFind(t *testing.T) {
	l := []api.Pred{pred("p", api.Int), pred("q"), pred("r", api.Str)}
	checkFind(t, l, "p", 0, true)
	checkFind(t, l, "q", 1, true)
	checkFind(t, l, "r", 2, true)
	for _, name := range []string{"", "s", "P", "pq", "p ", " p", "p\x00", "9", "é", long(33), long(65536)} {
		checkFind(t, l, name, 0, false)
		checkFind(t, nil, name, 0, false)
		checkFind(t, []api.Pred{}, name, 0, false)
	}
	checkFind(t, nil, "p", 0, false)
	checkFind(t, l[1:], "p", 0, false)
	checkFind(t, l[:2], "r", 0, false)
}

// Of those of the same name the first one is found, whatever their arguments are.
func TestFindOfTheSameName(t *testing.T) {
	l := []api.Pred{pred("a"), pred("p", api.Int), pred("p"), pred("b"), pred("p", api.Int), pred("b", api.Str), pred("a")}
	checkFind(t, l, "a", 0, true)
	checkFind(t, l, "p", 1, true)
	checkFind(t, l[2:], "p", 0, true)
	checkFind(t, l[3:], "p", 1, true)
	checkFind(t, l, "b", 3, true)
}

// What may be no signature is searched as well: what is asked for is just who has the name.
func TestFindInAnyList(t *testing.T) {
	l := []api.Pred{pred("9a", 7), pred("x", make([]int, 9)...), {}, pred(long(33)), pred("9a"), pred("é", -1), {}}
	for at, name := range []string{"9a", "x", "", long(33)} {
		checkFind(t, l, name, at, true)
	}
	checkFind(t, l, "é", 5, true)
	checkFind(t, l, "y", 0, false)
	many := numbered(300)
	for _, at := range []int{0, 1, 63, 64, 65, 255, 256, 299} {
		checkFind(t, many, fmt.Sprintf("p%d", at), at, true)
	}
	checkFind(t, many, "p300", 0, false)
}

func TestSame(t *testing.T) {
	l := []api.Pred{pred("p", api.Int, api.Str), pred("q"), pred("r", api.Str)}
	checkSame(t, l, l, true)
	checkSame(t, l, deep(l), true)
	for _, other := range [][]api.Pred{
		nil,
		{},
		l[:1],
		l[:2],
		l[1:],
		append(slices.Clone(l), pred("s")),
		append(slices.Clone(l), api.Pred{}),
		append(slices.Clone(l), l[2]),
		{l[1], l[0], l[2]},
		{l[0], l[2], l[1]},
		{l[2], l[1], l[0]},
		with(l, 0, pred("P", api.Int, api.Str)),
		with(l, 0, pred("pp", api.Int, api.Str)),
		with(l, 0, pred("", api.Int, api.Str)),
		with(l, 0, pred("p", api.Str, api.Int)),
		with(l, 0, pred("p", api.Int, api.Int)),
		with(l, 0, pred("p", api.Str, api.Str)),
		with(l, 0, pred("p", api.Int)),
		with(l, 0, pred("p", api.Str)),
		with(l, 0, pred("p")),
		with(l, 0, pred("p", api.Int, api.Str, api.Int)),
		with(l, 0, pred("p", api.Int, api.Str, 0)),
		with(l, 1, pred("q", api.Int)),
		with(l, 1, pred("q", 0)),
		with(l, 1, pred("x")),
		with(l, 2, pred("s", api.Str)),
		with(l, 2, pred("r", api.Int)),
		with(l, 2, pred("r")),
	} {
		checkSame(t, l, other, false)
		checkSame(t, other, other, true)
		checkSame(t, other, deep(other), true)
	}
}

func TestSameOfNone(t *testing.T) {
	checkSame(t, nil, nil, true)
	checkSame(t, nil, []api.Pred{}, true)
	checkSame(t, nil, make([]api.Pred, 0, 9), true)
	checkSame(t, nil, []api.Pred{{}}, false)
	checkSame(t, []api.Pred{}, []api.Pred{pred("p")}, false)
	none, empty, room := api.Pred{Name: "p", Args: nil}, api.Pred{Name: "p", Args: []int{}}, api.Pred{Name: "p", Args: make([]int, 0, 9)}
	checkSame(t, []api.Pred{none}, []api.Pred{empty}, true)
	checkSame(t, []api.Pred{none}, []api.Pred{room}, true)
	checkSame(t, []api.Pred{none, pred("q", 1), empty}, []api.Pred{empty, pred("q", 1), none}, true)
	checkSame(t, []api.Pred{none}, []api.Pred{pred("p", 0)}, false)
}

// What may be no signature is held against another one as well.
func TestSameOfAnyLists(t *testing.T) {
	long1, long2 := make([]int, 300), make([]int, 300)
	long2[299] = 1
	checkSame(t, []api.Pred{pred("p", long1...)}, []api.Pred{pred("p", slices.Clone(long1)...)}, true)
	checkSame(t, []api.Pred{pred("p", long1...)}, []api.Pred{pred("p", long2...)}, false)
	checkSame(t, []api.Pred{pred("p", long1...)}, []api.Pred{pred("p", long1[1:]...)}, false)
	checkSame(t, []api.Pred{pred("p", -1)}, []api.Pred{pred("p", math.MaxInt)}, false)
	checkSame(t, []api.Pred{pred("p", 1)}, []api.Pred{pred("p", 257)}, false)
	checkSame(t, []api.Pred{pred("p", 1)}, []api.Pred{pred("p", 1<<32+1)}, false)
	checkSame(t, []api.Pred{pred("p", 1), pred("p", 2)}, []api.Pred{pred("p", 1), pred("p", 2)}, true)
	checkSame(t, []api.Pred{pred("p", 1), pred("p", 2)}, []api.Pred{pred("p", 2), pred("p", 1)}, false)
	checkSame(t, []api.Pred{pred("p"), pred("p")}, []api.Pred{pred("p")}, false)
	checkSame(t, []api.Pred{pred(long(40))}, []api.Pred{pred(long(40))}, true)
	checkSame(t, []api.Pred{pred(long(40))}, []api.Pred{pred(long(41))}, false)
	checkSame(t, []api.Pred{pred("\xff")}, []api.Pred{pred("\xfe")}, false)
	checkSame(t, numbered(300), numbered(300), true)
	checkSame(t, numbered(300), with(numbered(300), 299, pred("x")), false)
}

// Each list of up to two pieces against each.
func TestSameOfAllLists(t *testing.T) {
	n := len(pieces())
	few := lists()[:1+n+n*n]
	for _, a := range few {
		for _, b := range few {
			checkSame(t, a, b, told(a) == told(b))
		}
	}
}

func TestClone(t *testing.T) {
	for _, l := range [][]api.Pred{
		{pred("p")},
		{{}},
		{{Name: "p", Args: []int{}}},
		{pred("p", api.Int)},
		{pred("p", api.Int, api.Str), pred("q"), pred("r", api.Str)},
		{pred("9", 7), pred("9", -1), pred(long(50), make([]int, 300)...)},
		numbered(64),
		numbered(300),
	} {
		c := Clone(l)
		if len(c) != len(l) || told(c) != told(l) {
			t.Errorf("Clone(%s) = %s", told(l), told(c))
		}
		checkSame(t, l, c, true)
	}
	for _, l := range [][]api.Pred{nil, {}, make([]api.Pred, 0, 9)} {
		if c := Clone(l); len(c) != 0 {
			t.Errorf("Clone of none = %s", told(c))
		}
	}
}

// roomy is a signature whose lists have room behind, with what stands there.
func roomy() (l, all []api.Pred, args []int) {
	args = []int{1, 2, 7, 2, 8, 9}
	all = []api.Pred{{Name: "p", Args: args[:2]}, {Name: "q", Args: args[3:3]}, {Name: "r", Args: args[3:4]}, pred("behind", 5)}
	return all[:3], all, args
}

// scribble writes all over a signature, and behind each of its lists.
func scribble(l []api.Pred) {
	for i := range l {
		for k := range l[i].Args {
			l[i].Args[k] = -9
		}
		_ = append(l[i].Args, -8, -7)
		l[i] = pred("scribbled", -6)
	}
	_ = append(l, pred("more"))
}

func TestCloneIsNewMemory(t *testing.T) {
	l, all, args := roomy()
	want := told(l)
	first, second := Clone(l), Clone(l)
	scribble(first)
	if told(l) != want || told(all[3:]) != told([]api.Pred{pred("behind", 5)}) || !slices.Equal(args, []int{1, 2, 7, 2, 8, 9}) {
		t.Errorf("with its clone written into, it is %s, and behind %s, %v", told(l), told(all[3:]), args)
	}
	if told(second) != want {
		t.Errorf("two clones share memory: %s", told(second))
	}
	scribble(l)
	if told(second) != want {
		t.Errorf("with the first one written into, its clone is %s", told(second))
	}
	third := Clone(second)
	scribble(second)
	if told(third) != want {
		t.Errorf("with a clone written into, its own clone is %s", told(third))
	}
}

// No two lists of one clone share memory, nor does one end where another one may be written into.
func TestListsOfACloneShareNothing(t *testing.T) {
	args := []int{1, 2, 1}
	l := []api.Pred{pred("p", args...), pred("q", args...), pred("r", args[:1]...), pred("s", args[1:]...), pred("t")}
	for i := range l {
		c := Clone(l)
		_ = append(c[i].Args, 9, 9, 9, 9, 9, 9, 9, 9)
		for k := range c[i].Args {
			c[i].Args[k] = 9
		}
		if !Same(c[:i], l[:i]) || !Same(c[i+1:], l[i+1:]) {
			t.Errorf("with the arguments of %d written into, it is %s", i, told(c))
		}
	}
	if !slices.Equal(args, []int{1, 2, 1}) {
		t.Errorf("what was handed in became %v", args)
	}
}

func TestLeavesWhatIsHandedIn(t *testing.T) {
	l, all, args := roomy()
	others := append(lists()[:200:200], l, all)
	for _, l := range others {
		want := told(l)
		for range 2 {
			Check(l)
			Find(l, "p")
			Find(l, "none")
			Same(l, all)
			Same(all, l)
			Clone(l)
		}
		if told(l) != want {
			t.Errorf("%s became %s", want, told(l))
		}
	}
	if !slices.Equal(args, []int{1, 2, 7, 2, 8, 9}) || told(all[3:]) != told([]api.Pred{pred("behind", 5)}) {
		t.Errorf("what stands behind became %s, %v", told(all[3:]), args)
	}
}

// Nothing is kept from call to call: what is answered hangs on the list as it is.
func TestKeepsNothing(t *testing.T) {
	l := []api.Pred{pred("p", api.Int), pred("q", api.Str)}
	c := Clone(l)
	for range 3 {
		checkCheck(t, l, api.OK)
		checkFind(t, l, "q", 1, true)
		checkFind(t, l, "z", 0, false)
		checkSame(t, l, c, true)
		l[1].Name = "p"
		checkCheck(t, l, api.ErrName)
		checkFind(t, l, "q", 0, false)
		checkSame(t, l, c, false)
		l[1].Name = "z"
		l[0].Args[0] = 3
		checkCheck(t, l, api.ErrType)
		checkFind(t, l, "z", 1, true)
		l[1].Name, l[0].Args[0] = "q", api.Int
	}
}

// What is in memory behind a list's end is none of it.
func TestNotBeyondTheEnd(t *testing.T) {
	all := []api.Pred{pred("p", 1, 3), pred("q"), pred("p"), {}}
	all[0].Args = all[0].Args[:1]
	checkCheck(t, all[:2], api.OK)
	checkFind(t, all[:1], "q", 0, false)
	checkSame(t, all[:2], []api.Pred{pred("p", 1), pred("q")}, true)
	if c := Clone(all[:2]); told(c) != told([]api.Pred{pred("p", 1), pred("q")}) {
		t.Errorf("Clone = %s", told(c))
	}
}
