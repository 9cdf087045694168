package sigbin

import (
	"bytes"
	"encoding/binary"
	"fmt"
	"hash/crc32"
	"math"
	"regexp"
	"slices"
	"strings"
	"testing"

	"tachograph/api"
	"tachograph/frame"
	"tachograph/sig"
)

// pred is a predicate of a name and arguments.
func pred(name string, args ...int) api.Pred {
	return api.Pred{Name: name, Args: args}
}

// long is a name of some size.
func long(size int) string { return strings.Repeat("a", size) }

// argsOfNumber are other arguments for each number below 511: all lists of up to eight there are.
func argsOfNumber(n int) []int {
	var args []int
	for n++; n > 1; n /= 2 {
		args = append(args, 1+n%2)
	}
	return args
}

// numbered are predicates of names that are all unlike, with arguments that are unlike for the most part.
func numbered(count int) []api.Pred {
	var l []api.Pred
	for i := range count {
		l = append(l, pred(fmt.Sprintf("p%d", i), argsOfNumber(i%511)...))
	}
	return l
}

// widest is the greatest signature that may be.
func widest() []api.Pred {
	var l []api.Pred
	for i := range 64 {
		l = append(l, pred(fmt.Sprintf("%s%02d", long(30), i), 2, 2, 1, 2, 1, 1, 2, 2))
	}
	return l
}

// told is a signature, so that no two that aren't the same are told alike.
func told(l []api.Pred) string {
	var all []string
	for _, p := range l {
		all = append(all, fmt.Sprintf("%q%v", p.Name, p.Args))
	}
	return strings.Join(all, " ")
}

// short is the front of bytes, so that a failure can be read.
func short(b []byte) []byte { return b[:min(len(b), 80)] }

// number are a number's bytes, by the library.
func number(n uint64) string { return string(binary.AppendUvarint(nil, n)) }

// bytesOf are a predicate's bytes, also of one that may not be: its types' lowest bytes are put.
func bytesOf(p api.Pred) string {
	b := number(uint64(len(p.Name))) + p.Name + number(uint64(len(p.Args)))
	for _, t := range p.Args {
		b += string([]byte{byte(t)})
	}
	return b
}

// allBytesOf are the bytes of predicates, one behind the other.
func allBytesOf(l []api.Pred) string {
	b := ""
	for _, p := range l {
		b += bytesOf(p)
	}
	return b
}

// payloadOf is the chapter's payload of any list.
func payloadOf(l []api.Pred) []byte {
	return []byte(number(uint64(len(l))) + allBytesOf(l))
}

// frameOf are the bytes of a frame with a signature's payload, by the library's sum.
func frameOf(payload []byte) []byte {
	body := slices.Concat([]byte{1}, []byte(number(uint64(len(payload)))), payload)
	return binary.LittleEndian.AppendUint32(slices.Concat([]byte{199, 84, 71, 1}, body), crc32.ChecksumIEEE(body))
}

// modelNumber is a number of at most most at the front of bytes, and what is behind it, by the library.
func modelNumber(b []byte, most uint64) (int, []byte, api.Errno) {
	n, size := binary.Uvarint(b)
	switch {
	case size < 0 || size == 0 && len(b) >= 10:
		return 0, nil, api.ErrLong
	case size == 0:
		return 0, nil, api.ErrShort
	case size != len(number(n)):
		return 0, nil, api.ErrForm
	case n > most:
		return 0, nil, api.ErrLimit
	}
	return int(n), b[size:], api.OK
}

// modelBytes are as many bytes as the number at the front of bytes says, at most most, and what is behind them.
func modelBytes(b []byte, most uint64) ([]byte, []byte, api.Errno) {
	n, behind, e := modelNumber(b, most)
	if e != api.OK {
		return nil, nil, e
	}
	if len(behind) < n {
		return nil, nil, api.ErrShort
	}
	return behind[:n], behind[n:], api.OK
}

// modelGet is the chapter's Get, read from the front without a cursor.
func modelGet(payload []byte) ([]api.Pred, api.Errno) {
	count, rest, e := modelNumber(payload, 64)
	if e != api.OK {
		return nil, e
	}
	var l []api.Pred
	for range count {
		var name, types []byte
		if name, rest, e = modelBytes(rest, 32); e != api.OK {
			return nil, e
		}
		if types, rest, e = modelBytes(rest, 8); e != api.OK {
			return nil, e
		}
		p := pred(string(name))
		for _, c := range types {
			p.Args = append(p.Args, int(c))
		}
		l = append(l, p)
	}
	if len(rest) > 0 {
		return nil, api.ErrForm
	}
	if e := modelCheck(l); e != api.OK {
		return nil, e
	}
	return l, api.OK
}

var modelName = regexp.MustCompile(`^[A-Z_a-z][0-9A-Z_a-z]*$`)

// modelCheck is layer 9's Check of what was read, whose counts are all within their limits.
func modelCheck(l []api.Pred) api.Errno {
	var names []string
	for _, p := range l {
		if !modelName.MatchString(p.Name) || slices.Contains(names, p.Name) {
			return api.ErrName
		}
		names = append(names, p.Name)
		if slices.ContainsFunc(p.Args, func(t int) bool { return t != 1 && t != 2 }) {
			return api.ErrType
		}
	}
	return api.OK
}

// checkPut holds Put and Frame of a signature that may be.
func checkPut(t *testing.T, l []api.Pred) {
	t.Helper()
	want := payloadOf(l)
	if b, e := Put(l); !bytes.Equal(b, want) || e != api.OK {
		t.Errorf("Put(%s) = %q, %d, want %q", told(l), short(b), e, short(want))
	}
	b, e := Frame(l)
	if !bytes.Equal(b, frameOf(want)) || e != api.OK {
		t.Errorf("Frame(%s) = %q, %d, want %q", told(l), short(b), e, short(frameOf(want)))
	}
	f, size, e := frame.Get(b)
	if f.Kind != api.SchemaFrame || !bytes.Equal(f.Payload, want) || size != len(b) || e != api.OK {
		t.Errorf("the frame of %s is read as %d, %q, %d, %d", told(l), f.Kind, short(f.Payload), size, e)
	}
}

// checkNotPut holds Put and Frame of a signature that may not be.
func checkNotPut(t *testing.T, l []api.Pred, want api.Errno) {
	t.Helper()
	if b, e := Put(l); len(b) != 0 || e != want {
		t.Errorf("Put(%s) = %q, %d, want none, %d", told(l), short(b), e, want)
	}
	if b, e := Frame(l); len(b) != 0 || e != want {
		t.Errorf("Frame(%s) = %q, %d, want none, %d", told(l), short(b), e, want)
	}
}

// checkGet holds a payload that is a signature's.
func checkGet(t *testing.T, payload string, want []api.Pred) {
	t.Helper()
	if l, e := Get([]byte(payload)); !sig.Same(l, want) || e != api.OK {
		t.Errorf("Get(%q) = %s, %d, want %s", short([]byte(payload)), told(l), e, told(want))
	}
}

// checkWrong holds a payload that is none.
func checkWrong(t *testing.T, payload string, want api.Errno) {
	t.Helper()
	if l, e := Get([]byte(payload)); len(l) != 0 || e != want {
		t.Errorf("Get(%q) of %d bytes = %s, %d, want none, %d", short([]byte(payload)), len(payload), told(l), e, want)
	}
}

// checkModel holds any bytes against the chapter, and tells whether they are taken; what is read has just these bytes.
func checkModel(t *testing.T, payload []byte) bool {
	t.Helper()
	want, wantE := modelGet(payload)
	l, e := Get(payload)
	if !sig.Same(l, want) || e != wantE {
		t.Fatalf("Get(%q) = %s, %d, want %s, %d", short(payload), told(l), e, told(want), wantE)
	}
	if e != api.OK {
		return false
	}
	if b, e := Put(l); !bytes.Equal(b, payload) || e != api.OK {
		t.Fatalf("Put(Get(%q)) = %q, %d", short(payload), short(b), e)
	}
	return true
}

func TestExample(t *testing.T) {
	l := []api.Pred{pred("p", api.Int)}
	if b, e := Put(l); !bytes.Equal(b, []byte{1, 1, 112, 1, 1}) || e != api.OK {
		t.Errorf("Put = %v, %d", b, e)
	}
	checkPut(t, l)
	checkGet(t, "\x01\x01p\x01\x01", l)
}

func TestKnownPayloads(t *testing.T) {
	for _, x := range []struct {
		l    []api.Pred
		want string
	}{
		{nil, "\x00"},
		{[]api.Pred{}, "\x00"},
		{[]api.Pred{pred("q")}, "\x01\x01q\x00"},
		{[]api.Pred{{Name: "q", Args: []int{}}}, "\x01\x01q\x00"},
		{[]api.Pred{pred("q", api.Str)}, "\x01\x01q\x01\x02"},
		{[]api.Pred{pred("login", api.Str, api.Int), pred("q")}, "\x02\x05login\x02\x02\x01\x01q\x00"},
		{[]api.Pred{pred("q"), pred("login", api.Str, api.Int)}, "\x02\x01q\x00\x05login\x02\x02\x01"},
		{[]api.Pred{pred("_9", 1, 2, 2, 1, 1, 1, 2, 1)}, "\x01\x02_9\x08\x01\x02\x02\x01\x01\x01\x02\x01"},
		{[]api.Pred{pred(long(32), api.Int), pred("A"), pred("a", api.Int)}, "\x03\x20" + long(32) + "\x01\x01\x01A\x00\x01a\x01\x01"},
	} {
		if b, e := Put(x.l); string(b) != x.want || e != api.OK {
			t.Errorf("Put(%s) = %q, %d, want %q", told(x.l), b, e, x.want)
		}
		checkPut(t, x.l)
		checkGet(t, x.want, x.l)
	}
}

func TestPutOfMany(t *testing.T) {
	for count := range 65 {
		checkPut(t, numbered(count))
	}
	for _, count := range []int{65, 66, 127, 128, 1000} {
		checkNotPut(t, numbered(count), api.ErrLimit)
	}
	checkNotPut(t, make([]api.Pred, 64), api.ErrName)
	checkNotPut(t, make([]api.Pred, 65), api.ErrLimit)
	checkNotPut(t, slices.Repeat([]api.Pred{pred("p", 3)}, 65), api.ErrLimit)
}

func TestPutOfAllArguments(t *testing.T) {
	for i := range 511 {
		checkPut(t, []api.Pred{pred("p", argsOfNumber(i)...)})
		checkPut(t, []api.Pred{pred("o"), pred("p", argsOfNumber(i)...), pred("q", 1)})
	}
}

// wrongPred is a predicate that may not be, and why.
type wrongPred struct {
	p    api.Pred
	want api.Errno
}

// wrongPreds have each thing that may be wrong with one; where two are, the first of layer 9's counts.
func wrongPreds() []wrongPred {
	all := []wrongPred{
		{api.Pred{}, api.ErrName},
		{pred("", 1), api.ErrName},
		{pred(long(33)), api.ErrName},
		{pred(long(128)), api.ErrName},
		{pred("9", 3), api.ErrName},
		{pred("9", make([]int, 9)...), api.ErrName},
		{pred("x", slices.Repeat([]int{1}, 9)...), api.ErrLimit},
		{pred("x", slices.Repeat([]int{2}, 256)...), api.ErrLimit},
		{pred("x", make([]int, 9)...), api.ErrLimit},
	}
	for _, name := range []string{"9", "9p", "p q", " p", "p\n", "p(", "p-q", "é", "p\xff", "\x00"} {
		all = append(all, wrongPred{pred(name), api.ErrName}, wrongPred{pred(name, 1, 2), api.ErrName})
	}
	for _, arg := range []int{math.MinInt, -255, -1, 0, 3, 4, 255, 256, 257, 258, 1<<32 + 1, math.MaxInt} {
		all = append(all, wrongPred{pred("x", arg), api.ErrType}, wrongPred{pred("x", 1, 2, 1, arg, 1, 2, 1, 2), api.ErrType}, wrongPred{pred("x", 1, 1, 1, 1, 2, 2, 2, arg), api.ErrType})
	}
	return all
}

func TestPutOfWhatMayNotBe(t *testing.T) {
	for _, x := range wrongPreds() {
		checkNotPut(t, []api.Pred{x.p}, x.want)
		for _, at := range []int{0, 1, 31, 62, 63} {
			l := numbered(64)
			l[at] = x.p
			checkNotPut(t, l, x.want)
		}
	}
}

func TestPutOfTheSameName(t *testing.T) {
	checkNotPut(t, []api.Pred{pred("p"), pred("p")}, api.ErrName)
	checkNotPut(t, []api.Pred{pred("p", 1), pred("p", 2)}, api.ErrName)
	checkNotPut(t, []api.Pred{pred("p", 1), pred("q", 1), pred("p", 1, 1)}, api.ErrName)
	checkNotPut(t, []api.Pred{pred("p", 1), pred("p", 3)}, api.ErrName)
	checkNotPut(t, []api.Pred{pred("p", 3), pred("p", 1)}, api.ErrType)
	for at := 1; at < 64; at++ {
		l := numbered(64)
		l[at].Name = "p0"
		checkNotPut(t, l, api.ErrName)
	}
}

// The greatest signature's payload is far from a frame's limit, so that what is beyond that is asked of framed.
func TestFrameOfTheGreatest(t *testing.T) {
	l := widest()
	if size := len(payloadOf(l)); size != 1+64*(1+32+1+8) || size > api.MaxPayload {
		t.Fatalf("the greatest payload has %d bytes", size)
	}
	checkPut(t, l)
	checkGet(t, string(payloadOf(l)), l)
}

func TestFramed(t *testing.T) {
	for _, size := range []int{0, 1, 127, 128, 2689, 4095, 4096} {
		payload := bytes.Repeat([]byte{7, 200, 1}, size)[:size]
		if b, e := framed(payload); !bytes.Equal(b, frameOf(payload)) || e != api.OK {
			t.Errorf("framed of %d bytes = %q, %d", size, short(b), e)
		}
	}
	for _, size := range []int{4097, 4098, 8192, 1 << 20} {
		if b, e := framed(make([]byte, size)); len(b) != 0 || e != api.ErrLimit {
			t.Errorf("framed of %d bytes = %q, %d", size, short(b), e)
		}
	}
}

// fault is what stands where something else should, and the error of it.
type fault struct {
	bytes string
	want  api.Errno
}

// cutNumbers are no number yet: the bytes end ahead of its last one.
func cutNumbers() []string {
	return []string{"", "\x80", "\xff", "\x81\x80", "\xff\xff\xff", strings.Repeat("\x80", 9), strings.Repeat("\xff", 9)}
}

// wrongNumbers are the faults of a number of at most most, which stay whatever is behind.
func wrongNumbers(most uint64) []fault {
	var all []fault
	for _, b := range []string{"\x80\x00", "\x81\x00", "\x82\x80\x00", "\xff\x00", "\xff\xff\x00", strings.Repeat("\x80", 9) + "\x00", strings.Repeat("\xff", 9) + "\x00"} {
		all = append(all, fault{b, api.ErrForm})
	}
	for _, b := range []string{strings.Repeat("\x80", 9) + "\x02", strings.Repeat("\xff", 9) + "\x7f", strings.Repeat("\x80", 10), strings.Repeat("\xff", 10), strings.Repeat("\x80", 10) + "\x00"} {
		all = append(all, fault{b, api.ErrLong})
	}
	for _, n := range []uint64{most + 1, most + 2, 127, 128, 129, 255, 256, 257, 256 + most, 1 << 14, 1 << 16, 1<<31 - 1, 1 << 31, 1 << 32, 1<<32 + 1, 1<<63 - 1, 1 << 63, 1<<63 + 1, math.MaxUint64 - 1, math.MaxUint64} {
		all = append(all, fault{number(n), api.ErrLimit})
	}
	return all
}

// behinds are some bytes that may stand behind: none, right ones, and wrong ones.
var behinds = []string{"", "\x00", "\x80", "\x01q\x00", "\x01q\x01\x01\x01r\x00", "\x00\x00", "\xff\xff\xff", strings.Repeat("\x00", 300), strings.Repeat("n", 300), strings.Repeat("\xff", 300)}

func TestGetOfTheNumberOfPredicates(t *testing.T) {
	for _, b := range cutNumbers() {
		checkWrong(t, b, api.ErrShort)
	}
	for _, x := range wrongNumbers(64) {
		for _, behind := range behinds {
			checkWrong(t, x.bytes+behind, x.want)
		}
	}
	for _, count := range []uint64{65, 66, 127, 128, 1000} {
		checkWrong(t, number(count)+allBytesOf(numbered(int(count))), api.ErrLimit)
	}
	for count := 1; count <= 64; count++ {
		checkWrong(t, number(uint64(count)), api.ErrShort)
		checkGet(t, number(uint64(count))+allBytesOf(numbered(count)), numbered(count))
	}
}

// scene is where a predicate may stand: how many there are, and its place.
type scene struct{ count, at int }

// scenes have a predicate that is the only one, the first one, one in the middle and the last one.
func scenes() []scene {
	return []scene{{1, 0}, {2, 0}, {2, 1}, {3, 1}, {10, 0}, {10, 5}, {10, 9}, {64, 0}, {64, 33}, {64, 63}}
}

// front are the bytes up to the scene's predicate.
func (s scene) front() string {
	return number(uint64(s.count)) + allBytesOf(numbered(s.at))
}

// behind are the bytes of the predicates behind it.
func (s scene) behind() string {
	return allBytesOf(numbered(s.count)[s.at+1:])
}

// checkCut holds that a payload may not end with such bytes of the scene's predicate.
func (s scene) checkCut(t *testing.T, b string) {
	t.Helper()
	checkWrong(t, s.front()+b, api.ErrShort)
}

// checkFault holds that a payload may not have such bytes of the scene's predicate, whatever is behind.
func (s scene) checkFault(t *testing.T, b string, want api.Errno) {
	t.Helper()
	for _, behind := range append([]string{s.behind()}, behinds...) {
		checkWrong(t, s.front()+b+behind, want)
	}
}

func TestGetOfNames(t *testing.T) {
	for _, s := range scenes() {
		for _, b := range cutNumbers() {
			s.checkCut(t, b)
		}
		for _, x := range wrongNumbers(32) {
			s.checkFault(t, x.bytes, x.want)
		}
		for _, size := range []int{33, 34, 64, 128, 200} {
			s.checkFault(t, bytesOf(pred(long(size), 1)), api.ErrLimit)
		}
		for size := 1; size <= 32; size++ {
			for there := range size {
				s.checkCut(t, number(uint64(size))+long(there))
			}
		}
	}
}

func TestGetOfNumbersOfArguments(t *testing.T) {
	for _, s := range scenes() {
		for _, name := range []string{"x", long(32)} {
			front := number(uint64(len(name))) + name
			for _, b := range cutNumbers() {
				s.checkCut(t, front+b)
			}
			for _, x := range wrongNumbers(8) {
				s.checkFault(t, front+x.bytes, x.want)
			}
			for _, arity := range []int{9, 10, 64, 128, 256, 1000} {
				s.checkFault(t, bytesOf(pred(name, slices.Repeat([]int{1}, arity)...)), api.ErrLimit)
			}
		}
	}
}

func TestGetOfTypesThatAreNotAllThere(t *testing.T) {
	for _, s := range scenes() {
		for arity := 1; arity <= 8; arity++ {
			for there := range arity {
				for _, c := range []string{"\x00", "\x01", "\x02", "\x03", "\x80", "\xff"} {
					s.checkCut(t, "\x01x"+number(uint64(arity))+strings.Repeat(c, there))
				}
			}
		}
	}
}

// signatures are many that may be.
func signatures() [][]api.Pred {
	all := [][]api.Pred{nil, {pred("p")}, widest()}
	for i := range 511 {
		for _, name := range []string{"p", "_", "Z9", "int", long(32)} {
			all = append(all, []api.Pred{pred(name, argsOfNumber(i)...)})
		}
		all = append(all, []api.Pred{pred("a", argsOfNumber(i)...), pred("b", argsOfNumber(510-i)...), pred("c", argsOfNumber(i*7%511)...)})
	}
	for size := 1; size <= 32; size++ {
		all = append(all, []api.Pred{pred(long(size)), pred("_"+long(size-1), api.Int), pred("A"+strings.Repeat("9", size-1), api.Str)})
	}
	for count := range 65 {
		all = append(all, numbered(count))
	}
	return all
}

func TestGetOfBytesBehind(t *testing.T) {
	for _, l := range signatures() {
		payload := string(payloadOf(l))
		for _, behind := range behinds {
			if behind != "" {
				checkWrong(t, payload+behind, api.ErrForm)
			}
		}
		checkWrong(t, payload+payload, api.ErrForm)
	}
	for _, l := range [][]api.Pred{nil, {pred("p", 1)}, numbered(10), widest()} {
		for c := range 256 {
			checkWrong(t, string(payloadOf(l))+string([]byte{byte(c)}), api.ErrForm)
		}
	}
	checkWrong(t, string(payloadOf(numbered(5)))+strings.Repeat("\x01", 1<<20), api.ErrForm)
}

// Of what was read layer 9's errors are told, at each place.
func TestGetOfWhatMayNotBe(t *testing.T) {
	for _, s := range scenes() {
		for _, x := range wrongPreds() {
			if len(x.p.Name) > 32 || len(x.p.Args) > 8 {
				continue
			}
			if b := bytesOf(x.p); modelCheck([]api.Pred{x.p}) == api.ErrName {
				checkWrong(t, s.front()+b+s.behind(), api.ErrName)
			}
		}
		for c := range 256 {
			for _, arity := range []int{1, 2, 8} {
				for _, at := range []int{0, arity / 2, arity - 1} {
					p := pred("x", argsOfNumber(510)[:arity]...)
					p.Args[at] = c
					if c == 1 || c == 2 {
						checkGet(t, s.front()+bytesOf(p)+s.behind(), slices.Concat(numbered(s.at), []api.Pred{p}, numbered(s.count)[s.at+1:]))
					} else {
						checkWrong(t, s.front()+bytesOf(p)+s.behind(), api.ErrType)
					}
				}
			}
		}
	}
}

func TestGetOfTheSameName(t *testing.T) {
	checkWrong(t, "\x02\x01q\x00\x01q\x00", api.ErrName)
	checkWrong(t, "\x02\x01q\x01\x01\x01q\x01\x02", api.ErrName)
	checkWrong(t, "\x03\x01q\x00\x01r\x00\x01q\x00", api.ErrName)
	checkWrong(t, "\x02\x00\x00\x00\x00", api.ErrName)
	for at := 1; at < 64; at++ {
		l := numbered(64)
		l[at].Name = "p0"
		checkWrong(t, string(payloadOf(l)), api.ErrName)
	}
}

// Of two faults of what was read the first is told, predicate by predicate, as layer 9 has it.
func TestFirstFaultOfWhatWasRead(t *testing.T) {
	for _, x := range []struct {
		l    []api.Pred
		want api.Errno
	}{
		{[]api.Pred{pred("", 3)}, api.ErrName},
		{[]api.Pred{pred("p", 3), pred("")}, api.ErrType},
		{[]api.Pred{pred("p", 3), pred("p")}, api.ErrType},
		{[]api.Pred{pred("9"), pred("p", 3)}, api.ErrName},
		{[]api.Pred{pred("p"), pred("p"), pred("q", 3)}, api.ErrName},
		{[]api.Pred{pred("p"), pred("q", 3), pred("p")}, api.ErrType},
		{[]api.Pred{pred("p"), pred("p", 3)}, api.ErrName},
		{[]api.Pred{pred("p", 1, 0), pred("9", 0)}, api.ErrType},
	} {
		checkWrong(t, string(payloadOf(x.l)), x.want)
	}
}

// A fault of the bytes is told ahead of one of what was read, wherever that stands; and bytes behind are told ahead of it, too.
func TestBytesAreToldOfFirst(t *testing.T) {
	for _, bad := range []string{"\x00\x00", "\x019\x00", "\x01 \x01\x01", "\x02\xc3\xa9\x00", "\x01x\x01\x00", "\x01x\x01\x03", "\x01x\x02\x01\xff", "\x01x\x00\x01x\x00"} {
		count := uint64(1 + strings.Count(bad, "\x00\x01x"))
		checkWrong(t, number(count)+bad+"\x00", api.ErrForm)
		checkWrong(t, number(count)+bad+bad, api.ErrForm)
		checkWrong(t, number(count)+bad+strings.Repeat("\xff", 50), api.ErrForm)
		for _, x := range []fault{
			{"", api.ErrShort}, {"\x80", api.ErrShort}, {"\x20", api.ErrShort}, {"\x02q", api.ErrShort}, {"\x01q", api.ErrShort}, {"\x01q\x80", api.ErrShort}, {"\x01q\x02\x01", api.ErrShort}, {"\x01q\x08\x03\x03\x03", api.ErrShort},
			{"\x21", api.ErrLimit}, {"\x21" + long(33) + "\x00", api.ErrLimit}, {"\x01q\x09", api.ErrLimit}, {"\x01q\xff\x7f", api.ErrLimit},
			{"\x80\x00", api.ErrForm}, {"\x01q\x80\x00", api.ErrForm}, {"\x01q\x00\x00", api.ErrForm},
			{strings.Repeat("\xff", 10), api.ErrLong}, {"\x01q" + strings.Repeat("\x80", 10), api.ErrLong},
		} {
			checkWrong(t, number(count+1)+bad+x.bytes, x.want)
		}
	}
}

// Of two faults of the bytes the one that is met first is told.
func TestFirstFaultOfBytes(t *testing.T) {
	for _, x := range []fault{
		{"\x41", api.ErrLimit},
		{"\x41\x80\x00", api.ErrLimit},
		{"\xc1\x00", api.ErrForm},
		{"\xc1", api.ErrShort},
		{"\x02\x80\x00\x01q\x09", api.ErrForm},
		{"\x02\x01q\x09\x80\x00", api.ErrLimit},
		{"\x02\x01q\x80\x00\x21", api.ErrForm},
		{"\x02\x21\x80\x00", api.ErrLimit},
		{"\x01\xa1\x00", api.ErrForm},
		{"\x01\xa1", api.ErrShort},
		{"\x01\x21", api.ErrLimit},
		{"\x01\x01q\x89\x00", api.ErrForm},
		{"\x01\x01q\x89", api.ErrShort},
		{"\x01\x01q\x09\x01", api.ErrLimit},
		{"\x01\x20q\x09", api.ErrShort},
		{"\x01\x01q\x08\x80\x00", api.ErrShort},
		{"\x03\x01q\x00\x01r\x09\x21", api.ErrLimit},
		{"\x03\x01q\x00\x01r\x01\x01\x21\x80\x00", api.ErrLimit},
	} {
		checkWrong(t, x.bytes, x.want)
	}
}

// tryAll holds all payloads of up to so many of some bytes against the model, and answers how many are taken.
func tryAll(t *testing.T, alphabet string, most int) int {
	t.Helper()
	taken := 0
	payloads := [][]byte{{}}
	for range most {
		var more [][]byte
		for _, b := range payloads {
			for i := range len(alphabet) {
				more = append(more, append(slices.Clone(b), alphabet[i]))
			}
		}
		for _, b := range more {
			if checkModel(t, b) {
				taken++
			}
		}
		payloads = more
	}
	return taken
}

func TestAllShortPayloads(t *testing.T) {
	every := ""
	for c := range 256 {
		every += string([]byte{byte(c)})
	}
	if taken := tryAll(t, every, 2); taken != 1 {
		t.Errorf("%d payloads of up to two bytes are taken", taken)
	}
	if taken := tryAll(t, "\x00\x01\x02\x03\x08\x09\x20\x21\x40\x41p90\x80\xff", 5); taken != 1+2+2*2+2*4 {
		t.Errorf("%d payloads of up to five of these bytes are taken", taken)
	}
	if taken := tryAll(t, "\x00\x01\x02pq\x80", 7); taken < 30 {
		t.Errorf("%d payloads of up to seven of these bytes are taken", taken)
	}
}

func TestThereAndBack(t *testing.T) {
	for _, l := range signatures() {
		checkPut(t, l)
		b, _ := Put(l)
		checkGet(t, string(b), l)
		if !checkModel(t, b) {
			t.Errorf("Put(%s) isn't taken", told(l))
		}
	}
}

func TestCutOffAnywhere(t *testing.T) {
	for _, l := range signatures() {
		payload := payloadOf(l)
		for i := range payload {
			checkWrong(t, string(payload[:i]), api.ErrShort)
		}
	}
}

// touched are a payload's neighbours: with one byte left out, put in or another one.
func touched(payload []byte, others string) [][]byte {
	var near [][]byte
	for at := range len(payload) + 1 {
		front, behind := payload[:at], payload[at:]
		for i := range len(others) {
			near = append(near, slices.Concat(front, []byte{others[i]}, behind))
			if len(behind) > 0 {
				near = append(near, slices.Concat(front, []byte{others[i]}, behind[1:]))
			}
		}
		if len(behind) > 0 {
			near = append(near, slices.Concat(front, behind[1:]))
		}
	}
	return near
}

// A payload with one byte changed, put in or left out is either not taken, or read as a signature with just that payload.
func TestOneByteTouched(t *testing.T) {
	every := ""
	for c := range 256 {
		every += string([]byte{byte(c)})
	}
	taken := 0
	for _, l := range [][]api.Pred{
		nil,
		{pred("p")},
		{pred("p", 1, 2)},
		{pred("a"), pred("b")},
		{pred("a", 2), pred("aa", 1)},
		{pred("login", 2, 1), pred("q"), pred("_1")},
		{pred("p", 1, 2, 1, 2, 1, 2, 1, 2)},
		{pred(long(32), 1), pred(long(31))},
		numbered(12),
	} {
		for _, near := range touched(payloadOf(l), every) {
			if checkModel(t, near) {
				taken++
			}
		}
	}
	if taken < 500 {
		t.Errorf("only %d of the neighbours are taken", taken)
	}
	for _, l := range [][]api.Pred{numbered(64), widest()} {
		for _, near := range touched(payloadOf(l), "\x00\x01\x02\x08\x20a0\x80\xff") {
			checkModel(t, near)
		}
	}
}

// crowded is a signature whose lists lie side by side in one list, with room behind that something stands in.
func crowded() ([]api.Pred, []int) {
	cells := []int{1, 2, 2, 1, 1, 7, 8, 9}
	l := append(make([]api.Pred, 0, 8), api.Pred{Name: "a", Args: cells[:2]}, api.Pred{Name: "b", Args: cells[2:2]}, api.Pred{Name: "c", Args: cells[2:5]}, pred("behind", 5))
	return l[:3], cells
}

func TestLeavesTheSignature(t *testing.T) {
	l, cells := crowded()
	for range 3 {
		checkPut(t, l)
		checkNotPut(t, l[:4], api.ErrType)
	}
	want := []api.Pred{pred("a", 1, 2), pred("b"), pred("c", 2, 1, 1), pred("behind", 5)}
	if !sig.Same(l[:4], want) || !slices.Equal(cells, []int{1, 2, 2, 1, 1, 7, 8, 9}) {
		t.Errorf("what was handed in became %s, %v", told(l[:4]), cells)
	}
}

// What was answered stays whatever is written into the signature, and what is answered then is the signature's of then.
func TestPutKeepsNothing(t *testing.T) {
	l, cells := crowded()
	before := payloadOf(l)
	payload, _ := Put(l)
	framed, _ := Frame(l)
	cells[0], l[1].Name = 2, "z"
	checkPut(t, l)
	l[1].Name = "a"
	checkNotPut(t, l, api.ErrName)
	checkPut(t, l[:1])
	if !bytes.Equal(payload, before) || !bytes.Equal(framed, frameOf(before)) {
		t.Errorf("what was answered became %q, %q", payload, framed)
	}
}

// spoil writes over bytes, and behind them as far as there is room.
func spoil(b []byte) {
	b = b[:cap(b)]
	for i := range b {
		b[i] = 9
	}
}

func TestPutAnswersNewMemory(t *testing.T) {
	for _, l := range [][]api.Pred{nil, {pred("p")}, {pred("p", 1, 2), pred("q")}, numbered(64)} {
		payload, _ := Put(l)
		framed, _ := Frame(l)
		for range 3 {
			other, _ := Put(l)
			spoil(other)
			other, _ = Frame(l)
			spoil(other)
			checkPut(t, l)
		}
		if !bytes.Equal(payload, payloadOf(l)) || !bytes.Equal(framed, frameOf(payloadOf(l))) {
			t.Errorf("with other answers written into, the first ones are %q, %q", short(payload), short(framed))
		}
	}
}

// What is in memory behind a payload's end is none of it, and no byte of it or behind is written.
func TestLeavesThePayload(t *testing.T) {
	for _, l := range [][]api.Pred{nil, {pred("p")}, {pred("p", 1, 2), pred("q")}, numbered(64)} {
		payload := payloadOf(l)
		for _, behind := range []string{"\x00", "\x01q\x00\x01q\x00", strings.Repeat("\xff", 100)} {
			roomy := slices.Concat(payload, []byte(behind))
			before := slices.Clone(roomy)
			for size := range len(payload) + 1 {
				got, e := Get(roomy[:size])
				if size < len(payload) && (len(got) != 0 || e != api.ErrShort) || size == len(payload) && (!sig.Same(got, l) || e != api.OK) {
					t.Errorf("Get of the first %d bytes of %q = %s, %d", size, short(payload), told(got), e)
				}
			}
			checkWrong(t, string(roomy), api.ErrForm)
			if _, e := Get(roomy); e != api.ErrForm || !bytes.Equal(roomy, before) {
				t.Errorf("%q became %q, with %d", short(before), short(roomy), e)
			}
		}
	}
}

func TestGetAnswersNewMemory(t *testing.T) {
	want := []api.Pred{pred("a", 1, 2, 1), pred("bb", 1), pred("c"), pred("d", 2, 2, 2, 2, 2), pred("e", 1, 2, 1)}
	payload := payloadOf(want)
	kept, _ := Get(payload)
	for i := range want {
		l, _ := Get(payload)
		_ = append(l[i].Args, 9, 9, 9, 9, 9, 9, 9, 9)
		for k := range l[i].Args {
			l[i].Args[k] = 9
		}
		if !sig.Same(l[:i], want[:i]) || !sig.Same(l[i+1:], want[i+1:]) {
			t.Errorf("with the arguments of %d written into, it is %s", i, told(l))
		}
		_ = append(l, pred("more"))
		clear(l)
		checkGet(t, string(payloadOf(want)), want)
	}
	if !bytes.Equal(payload, payloadOf(want)) {
		t.Errorf("with answers written into, the payload is %q", payload)
	}
	spoil(payload)
	if !sig.Same(kept, want) {
		t.Errorf("with the payload and other answers written into, the first one is %s", told(kept))
	}
}

// A nil payload is the same as an empty one.
func TestNoPayload(t *testing.T) {
	for _, payload := range [][]byte{nil, {}, make([]byte, 0, 9), payloadOf(numbered(3))[:0]} {
		if l, e := Get(payload); len(l) != 0 || e != api.ErrShort {
			t.Errorf("Get of no byte = %s, %d", told(l), e)
		}
	}
}

// An answer hangs on what was handed in alone, not on the calls ahead.
func TestKeepsNothing(t *testing.T) {
	for range 3 {
		checkGet(t, "\x01\x01p\x00", []api.Pred{pred("p")})
		checkWrong(t, "\x02\x01p\x00\x01p\x00", api.ErrName)
		checkGet(t, "\x01\x01p\x01\x01", []api.Pred{pred("p", 1)})
		checkWrong(t, "\x01\x01p\x00\x00", api.ErrForm)
		checkWrong(t, "\x01", api.ErrShort)
		checkWrong(t, "\x41", api.ErrLimit)
		checkGet(t, "\x00", nil)
		checkPut(t, []api.Pred{pred("p", 2)})
		checkNotPut(t, numbered(65), api.ErrLimit)
	}
}

// Many bytes and predicates, right and wrong ones, are gone through, too.
func TestMuch(t *testing.T) {
	for _, x := range []fault{
		{strings.Repeat("\x00", 1<<20), api.ErrForm},
		{strings.Repeat("\x80", 1<<20), api.ErrLong},
		{strings.Repeat("\xff", 1<<20), api.ErrLong},
		{strings.Repeat("\x01", 1<<20), api.ErrForm},
		{"\x40" + strings.Repeat("\x00", 1<<20), api.ErrForm},
		{"\x40" + strings.Repeat("\x01", 127), api.ErrShort},
		{"\x01\x20" + strings.Repeat("\x08", 1<<20), api.ErrForm},
	} {
		checkWrong(t, x.bytes, x.want)
	}
	checkNotPut(t, numbered(1<<16), api.ErrLimit)
	checkNotPut(t, []api.Pred{pred(long(1 << 20))}, api.ErrName)
	checkNotPut(t, []api.Pred{pred("p", slices.Repeat([]int{1}, 1<<20)...)}, api.ErrLimit)
}
