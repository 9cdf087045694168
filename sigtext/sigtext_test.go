package sigtext

import (
	"fmt"
	"math"
	"regexp"
	"slices"
	"strings"
	"testing"

	"tachograph/api"
	"tachograph/sig"
)

// pred is a predicate of a name and arguments.
func pred(name string, args ...int) api.Pred {
	return api.Pred{Name: name, Args: args}
}

// long is a name of some size.
func long(size int) string { return strings.Repeat("a", size) }

// numbered are predicates of names that are all unlike, with arguments that are unlike for the most part.
func numbered(count int) []api.Pred {
	var l []api.Pred
	for i := range count {
		l = append(l, pred(fmt.Sprintf("p%d", i), argsOfNumber(i%511)...))
	}
	return l
}

// argsOfNumber are other arguments for each number below 511: all lists of up to eight there are.
func argsOfNumber(n int) []int {
	var args []int
	for n++; n > 1; n /= 2 {
		args = append(args, 1+n%2)
	}
	return args
}

// nine is a line's list of nine arguments.
const nine = "int,string,int,int,int,int,int,int,int"

// textOf is a text of lines, each with a line feed at its end.
func textOf(lines ...string) string {
	return strings.Join(append(slices.Clone(lines), ""), "\n")
}

// goodLines are lines of predicates whose names are all unlike, and like none of badLines.
func goodLines(count int) []string {
	var lines []string
	for i := range count {
		lines = append(lines, fmt.Sprintf("g%d(%s)", i, []string{"", "int", "string", "int,string"}[i%4]))
	}
	return lines
}

// fault is a line, and what is wrong with it behind others.
type fault struct {
	line string
	want api.Errno
}

// badLines aren't as a line of some predicate.
func badLines() []string {
	return slices.Concat(linesOfBadSigns(), linesOfBadNames(), linesOfBadTypes(), linesOfMuchMore())
}

// linesOfBadSigns have parentheses and commas that a line doesn't have there.
func linesOfBadSigns() []string {
	return []string{
		"", "p", "(", ")", "()", "(int)", "p(", "p)", "p)(", "p((", "p))", "p(()", "p())", "p((int))", "(p())", "p()()", "p(int)(int)", "p()q()", "p(int", "pint)", "p[int]", "p{}", "p<int>",
		",", "p,", "p(,)", "p(,,)", "p(,int)", "p(int,)", "p(int,,int)", "p(,int,)", "p(int,int,)", "p(,int,int)", "p(),", "p(int),", ",p(int)", "p,(int)", "p(int;int)", "p(int.int)", "p(int int)", "p(intint)", "p(stringint)", "p(int,string", "p(int,string,", "p(int)string",
	}
}

// linesOfBadNames have a name that is none.
func linesOfBadNames() []string {
	lines := []string{"9()", "0(int)", "9p()", "1_(string)", long(33) + "()", long(33) + "(int)", long(34) + "()", "_" + strings.Repeat("9", 32) + "()"}
	for _, name := range []string{" p", "p ", "p q", "\tp", "p\t", "p-q", "-p", "p.q", "p:", "@p", "é", "pé", "\xc3", "p\xff", "\xffp", "\x00", "p\x00", "\x00p", "p\r", "\rp", "\u2028p", "\ufeffp", "p\u00a0"} {
		lines = append(lines, name+"()", name+"(int)")
	}
	return lines
}

// linesOfBadTypes have a word that is no type's, ahead, alone, behind and between.
func linesOfBadTypes() []string {
	var lines []string
	for _, word := range []string{
		"Int", "INT", "inT", "iNt", "String", "STRING", "strinG", "Str", "str", "i", "in", "nt", "s", "st", "strin", "tring", "ints", "int8", "int64", "intint", "strings", "stringint", "int_", "_int", "uint", "bool", "x", "p", "1", "2", "0", "-", "\"int\"", "'int'", "*int", "[]int",
		" ", " int", "int ", " string", "string ", "\tint", "int\t", "i nt", "int\r", "\rint", "int\x00", "\x00int", "\x00", "int\xff", "\xffstring", "ïnt", "iṉt", "ｉｎｔ", "int\u00a0", "int\u200b", "\xef\xbb\xbfint",
	} {
		lines = append(lines, "p("+word+")", "p("+word+",int)", "p(int,"+word+")", "p(string,"+word+",int)")
	}
	return lines
}

// linesOfMuchMore have something ahead of a line or behind it, or too many arguments and something else that is wrong.
func linesOfMuchMore() []string {
	var lines []string
	for _, more := range []string{" ", "\t", "\r", "\x00", "\x80", "\xff", "é", ";", "//", "p", "int", "("} {
		lines = append(lines, more, "p()"+more, "p(int)"+more, "p(int,string)"+more)
	}
	for _, more := range []string{" ", "\t", "\r", "\x00", "\x80", "\xff", "9", "@", "("} {
		lines = append(lines, more+"p()", more+"p(int)")
	}
	return append(lines, "p("+nine+",)", "p(,"+nine+")", "p("+nine, "p("+nine+")x", "p("+nine+",Int)", "p("+nine+",int,,int)", "9("+nine+")", "("+nine+")", "p("+nine+") ", "p("+nine+")\r")
}

// fullLines are as lines of predicates, but with more arguments than may be.
func fullLines() []string {
	lines := []string{"p(" + nine + ")", "g(string," + nine + ")"}
	for _, count := range []int{9, 10, 16, 64, 255, 256, 257, 1000, 100000} {
		for _, word := range []string{"int", "string"} {
			lines = append(lines, "p("+word+strings.Repeat(","+word, count-1)+")")
		}
	}
	return lines
}

// told is a signature, so that no two that aren't the same are told alike.
func told(l []api.Pred) string {
	var all []string
	for _, p := range l {
		all = append(all, fmt.Sprintf("%q%v", p.Name, p.Args))
	}
	return strings.Join(all, " ")
}

// short is a text, or its front.
func short(text string) string {
	if len(text) > 300 {
		return fmt.Sprintf("%q .. (%d bytes)", text[:300], len(text))
	}
	return fmt.Sprintf("%q", text)
}

// modelPrint is the chapter's text of a signature that may be.
func modelPrint(l []api.Pred) string {
	text := ""
	for _, p := range l {
		list := strings.Trim(fmt.Sprint(p.Args), "[]")
		list = strings.NewReplacer("1", "int", "2", "string", " ", ",").Replace(list)
		text += fmt.Sprintf("%s(%s)\n", p.Name, list)
	}
	return text
}

var modelLine = regexp.MustCompile(`^([A-Z_a-z][0-9A-Z_a-z]{0,31})\(((?:(?:int|string),)*(?:int|string))?\)$`)

// modelParse is the chapter's Parse, by a pattern of lines.
func modelParse(text string) ([]api.Pred, api.Errno, api.Place) {
	var l []api.Pred
	lines := strings.SplitAfter(text, "\n")
	for i, whole := range lines {
		if i == len(lines)-1 && whole == "" {
			break
		}
		line := strings.TrimSuffix(whole, "\n")
		begin := api.Place{Line: i + 1, Column: 1}
		found := modelLine.FindStringSubmatch(line)
		if found == nil {
			return nil, api.ErrForm, begin
		}
		if slices.ContainsFunc(l, func(p api.Pred) bool { return p.Name == found[1] }) {
			return nil, api.ErrName, begin
		}
		args := modelArgs(found[2])
		if len(args) > 8 || i == 64 {
			return nil, api.ErrLimit, begin
		}
		if whole == line {
			return nil, api.ErrForm, api.Place{Line: i + 1, Column: 1 + len(line)}
		}
		l = append(l, pred(found[1], args...))
	}
	return l, api.OK, api.Place{}
}

// modelArgs are the arguments of a list that the pattern takes, told by their first letters.
func modelArgs(list string) []int {
	var args []int
	for _, word := range strings.FieldsFunc(list, func(r rune) bool { return r == ',' }) {
		args = append(args, 1+strings.Index("is", word[:1]))
	}
	return args
}

func checkLine(t *testing.T, p api.Pred, want string, wantE api.Errno) {
	t.Helper()
	if line, e := Line(p); line != want || e != wantE {
		t.Errorf("Line(%s) = %q, %d, want %q, %d", told([]api.Pred{p}), line, e, want, wantE)
	}
}

func checkPrint(t *testing.T, l []api.Pred, want string, wantE api.Errno) {
	t.Helper()
	if text, e := Print(l); text != want || e != wantE {
		t.Errorf("Print(%s) = %q, %d, want %q, %d", told(l), text, e, want, wantE)
	}
}

// checkParse holds a text that is a signature's.
func checkParse(t *testing.T, text string, want []api.Pred) {
	t.Helper()
	if l, e, place := Parse(text); !sig.Same(l, want) || e != api.OK || place != (api.Place{}) {
		t.Errorf("Parse(%s) = %s, %d, %d, want %s, at no place", short(text), told(l), e, place, told(want))
	}
}

// checkWrong holds a text that is none.
func checkWrong(t *testing.T, text string, want api.Errno, line, column int) {
	t.Helper()
	if l, e, place := Parse(text); len(l) != 0 || e != want || place != (api.Place{Line: line, Column: column}) {
		t.Errorf("Parse(%s) = %s, %d, %d, want none, %d, {%d %d}", short(text), told(l), e, place, want, line, column)
	}
}

// checkModel holds any text against the chapter, and tells whether it is a signature's.
func checkModel(t *testing.T, text string) bool {
	t.Helper()
	want, wantE, place := modelParse(text)
	if wantE != api.OK {
		checkWrong(t, text, wantE, place.Line, place.Column)
		return false
	}
	checkParse(t, text, want)
	return true
}

// checkBack holds a text against what it is read as: that is printed as the text itself.
func checkBack(t *testing.T, text string) {
	t.Helper()
	if l, e, _ := Parse(text); e == api.OK {
		checkPrint(t, l, text, api.OK)
	} else if len(l) != 0 {
		t.Errorf("Parse(%s) = %s beside the error %d", short(text), told(l), e)
	}
}

func TestExample(t *testing.T) {
	p := pred("p", api.Int, api.Str)
	checkLine(t, p, "p(int,string)", api.OK)
	checkPrint(t, []api.Pred{p}, "p(int,string)\n", api.OK)
	checkParse(t, "p(int,string)\n", []api.Pred{p})
}

func TestLine(t *testing.T) {
	checkLine(t, pred("p"), "p()", api.OK)
	checkLine(t, api.Pred{Name: "p", Args: []int{}}, "p()", api.OK)
	checkLine(t, pred("p", api.Int), "p(int)", api.OK)
	checkLine(t, pred("p", api.Str), "p(string)", api.OK)
	checkLine(t, pred("Log_1n", api.Str, api.Int), "Log_1n(string,int)", api.OK)
	checkLine(t, pred("_", 1, 1, 2, 1, 2, 2, 1, 2), "_(int,int,string,int,string,string,int,string)", api.OK)
	checkLine(t, pred(long(32), 2, 2, 2, 2, 2, 2, 2, 2), long(32)+"(string,string,string,string,string,string,string,string)", api.OK)
	checkLine(t, pred("int", api.Str), "int(string)", api.OK)
	checkLine(t, pred("string", api.Int), "string(int)", api.OK)
}

func TestLineOfAllArguments(t *testing.T) {
	for i := range 511 {
		p := pred("p", argsOfNumber(i)...)
		checkLine(t, p, strings.TrimSuffix(modelPrint([]api.Pred{p}), "\n"), api.OK)
	}
}

func TestLineOfWhatMayNotBe(t *testing.T) {
	checkLine(t, api.Pred{}, "", api.ErrName)
	for _, name := range []string{"", "9", "9p", "p q", " p", "p\n", "p(", "p()", "é", "p\xff", "\x00", long(33)} {
		checkLine(t, pred(name), "", api.ErrName)
		checkLine(t, pred(name, api.Int), "", api.ErrName)
		checkLine(t, pred(name, 3), "", api.ErrName)
		checkLine(t, pred(name, make([]int, 9)...), "", api.ErrName)
	}
	for _, count := range []int{9, 10, 64, 1000} {
		checkLine(t, pred("p", slices.Repeat([]int{api.Int}, count)...), "", api.ErrLimit)
		checkLine(t, pred("p", slices.Repeat([]int{api.Str}, count)...), "", api.ErrLimit)
		checkLine(t, pred("p", make([]int, count)...), "", api.ErrLimit)
	}
	for _, arg := range []int{math.MinInt, -1, 0, 3, 4, 257, 1<<32 + 1, math.MaxInt} {
		checkLine(t, pred("p", arg), "", api.ErrType)
		checkLine(t, pred("p", api.Int, api.Str, 1, 1, 1, 1, 1, arg), "", api.ErrType)
		checkLine(t, pred("p", arg, api.Str), "", api.ErrType)
	}
}

func TestPrint(t *testing.T) {
	checkPrint(t, nil, "", api.OK)
	checkPrint(t, []api.Pred{}, "", api.OK)
	checkPrint(t, []api.Pred{pred("q")}, "q()\n", api.OK)
	checkPrint(t, []api.Pred{pred("login", api.Str, api.Int), pred("q")}, "login(string,int)\nq()\n", api.OK)
	checkPrint(t, []api.Pred{pred("q"), pred("login", api.Str, api.Int)}, "q()\nlogin(string,int)\n", api.OK)
	checkPrint(t, []api.Pred{pred("b", 1), pred("B", 2), pred("_b", 2, 2), pred("b_"), pred("b0", 1, 1)}, "b(int)\nB(string)\n_b(string,string)\nb_()\nb0(int,int)\n", api.OK)
	for _, count := range []int{2, 10, 63, 64} {
		checkPrint(t, numbered(count), modelPrint(numbered(count)), api.OK)
	}
}

func TestPrintOfTooMany(t *testing.T) {
	for _, count := range []int{65, 66, 128, 1000} {
		checkPrint(t, numbered(count), "", api.ErrLimit)
	}
	checkPrint(t, make([]api.Pred, 64), "", api.ErrName)
	checkPrint(t, make([]api.Pred, 65), "", api.ErrLimit)
	checkPrint(t, slices.Repeat([]api.Pred{pred("p")}, 65), "", api.ErrLimit)
}

// Each thing that may be wrong with a signature, at the first predicate, in the middle and at the last one.
func TestPrintOfWhatMayNotBe(t *testing.T) {
	for _, x := range []struct {
		p    api.Pred
		want api.Errno
	}{
		{api.Pred{}, api.ErrName},
		{pred("9a"), api.ErrName},
		{pred("a b", 1), api.ErrName},
		{pred("a\nb"), api.ErrName},
		{pred(long(33), 3), api.ErrName},
		{pred("x", slices.Repeat([]int{1}, 9)...), api.ErrLimit},
		{pred("x", make([]int, 9)...), api.ErrLimit},
		{pred("x", 0), api.ErrType},
		{pred("x", 1, 2, 3), api.ErrType},
		{pred("x", -1, 2), api.ErrType},
	} {
		checkPrint(t, []api.Pred{x.p}, "", x.want)
		for _, at := range []int{0, 1, 31, 62, 63} {
			l := numbered(64)
			l[at] = x.p
			checkPrint(t, l, "", x.want)
		}
	}
}

func TestPrintOfTheSameName(t *testing.T) {
	checkPrint(t, []api.Pred{pred("p"), pred("p")}, "", api.ErrName)
	checkPrint(t, []api.Pred{pred("p", 1), pred("p", 2)}, "", api.ErrName)
	checkPrint(t, []api.Pred{pred("p", 1), pred("q", 1), pred("p", 1, 1)}, "", api.ErrName)
	for at := 1; at < 64; at++ {
		l := numbered(64)
		l[at].Name = "p0"
		checkPrint(t, l, "", api.ErrName)
	}
}

func TestParse(t *testing.T) {
	checkParse(t, "", nil)
	checkParse(t, "q()\n", []api.Pred{pred("q")})
	checkParse(t, "q(int)\n", []api.Pred{pred("q", api.Int)})
	checkParse(t, "q(string)\n", []api.Pred{pred("q", api.Str)})
	checkParse(t, "login(string,int)\nq()\n", []api.Pred{pred("login", api.Str, api.Int), pred("q")})
	checkParse(t, "q()\nlogin(string,int)\n", []api.Pred{pred("q"), pred("login", api.Str, api.Int)})
	checkParse(t, "p()\nP(int)\np_()\n_p(string)\np0()\n", []api.Pred{pred("p"), pred("P", 1), pred("p_"), pred("_p", 2), pred("p0")})
	checkParse(t, "int(string)\nstring(int)\nInt()\n", []api.Pred{pred("int", 2), pred("string", 1), pred("Int")})
	checkParse(t, long(32)+"(int,string,int,string,int,string,int,string)\n"+long(31)+"()\n", []api.Pred{pred(long(32), 1, 2, 1, 2, 1, 2, 1, 2), pred(long(31))})
	for _, count := range []int{2, 10, 63, 64} {
		checkParse(t, modelPrint(numbered(count)), numbered(count))
	}
}

// ahead are good lines in number, none or some, one fewer than may be, and as many as may be.
var ahead = []int{0, 1, 2, 30, 63, 64}

// A line that isn't as one of some predicate is told of at its first column, whatever is behind, with a line feed at its end or without.
func TestLineThatIsNone(t *testing.T) {
	for _, line := range badLines() {
		for _, count := range ahead {
			front := textOf(goodLines(count)...)
			if line != "" {
				checkWrong(t, front+line, api.ErrForm, count+1, 1)
			}
			for _, behind := range []string{"", "h()\n", "h()\ni(int)\n", "h()", "h", "\n", "g0()\n", "h(" + nine + ")\n", textOf(goodLines(65)...)} {
				checkWrong(t, front+line+"\n"+behind, api.ErrForm, count+1, 1)
			}
		}
	}
}

// All bytes but the ones of a name, of a line and between lines, ahead of a line, within and behind.
func TestEachByteInALine(t *testing.T) {
	for c := range 256 {
		one := string([]byte{byte(c)})
		for _, line := range []string{one, one + "p()", "p" + one + "()", "p" + one + "q(int)", "p(" + one + ")", "p(int" + one + ")", "p(int" + one + "string)", "p(int)" + one, "p()" + one, one + "()"} {
			for _, text := range []string{line, line + "\n", "a()\n" + line + "\nb()\n", textOf(goodLines(63)...) + line + "\n"} {
				checkModel(t, text)
				checkBack(t, text)
			}
		}
	}
}

func TestSameName(t *testing.T) {
	for _, two := range [][2]string{{"x()", "x()"}, {"x(int)", "x(int)"}, {"x(int)", "x(string)"}, {"x()", "x(int,int)"}, {"x(int,string)", "x()"}, {long(32) + "()", long(32) + "(int)"}} {
		checkWrong(t, textOf(two[0], two[1]), api.ErrName, 2, 1)
		checkWrong(t, textOf(two[0], two[1], two[0]), api.ErrName, 2, 1)
		checkWrong(t, textOf(two[0], "y()", two[1]), api.ErrName, 3, 1)
		for _, at := range [][2]int{{0, 1}, {0, 63}, {62, 63}, {20, 40}} {
			lines := goodLines(64)
			lines[at[0]] = two[0]
			checkParse(t, textOf(lines...), mustParse(t, textOf(lines...)))
			lines[at[1]] = two[1]
			checkWrong(t, textOf(lines...), api.ErrName, at[1]+1, 1)
			checkWrong(t, strings.TrimSuffix(textOf(lines...), "\n"), api.ErrName, at[1]+1, 1)
		}
	}
}

// mustParse is the signature of a text, by the model.
func mustParse(t *testing.T, text string) []api.Pred {
	t.Helper()
	l, e, _ := modelParse(text)
	if e != api.OK {
		t.Fatalf("%s is no signature's text", short(text))
	}
	return l
}

func TestTooManyArguments(t *testing.T) {
	for _, line := range fullLines() {
		for _, count := range ahead {
			front := textOf(goodLines(count)...)
			checkWrong(t, front+line, api.ErrLimit, count+1, 1)
			for _, behind := range []string{"", "h()\n", "h()", "9\n", "\n", line + "\n"} {
				checkWrong(t, front+line+"\n"+behind, api.ErrLimit, count+1, 1)
			}
		}
	}
	for count := range 9 {
		line := "p(" + strings.Join(strings.Split(nine, ",")[:count], ",") + ")"
		checkParse(t, textOf(line), []api.Pred{pred("p", []int{1, 2, 1, 1, 1, 1, 1, 1}[:count]...)})
	}
}

// The 65th line is too many, if it is as a line of a predicate of another name.
func TestTooManyLines(t *testing.T) {
	lines := goodLines(1000)
	checkParse(t, textOf(lines[:64]...), mustParse(t, textOf(lines[:64]...)))
	for _, count := range []int{65, 66, 67, 128, 1000} {
		checkWrong(t, textOf(lines[:count]...), api.ErrLimit, 65, 1)
		checkWrong(t, strings.TrimSuffix(textOf(lines[:count]...), "\n"), api.ErrLimit, 65, 1)
	}
	full := textOf(lines[:64]...)
	for _, x := range []fault{
		{"h()", api.ErrLimit},
		{"h(int,string)", api.ErrLimit},
		{"h(" + nine + ")", api.ErrLimit},
		{"g0()", api.ErrName},
		{"g63()", api.ErrName},
		{"g30(" + nine + ")", api.ErrName},
		{"h", api.ErrForm},
		{"h(Int)", api.ErrForm},
		{"g0(int", api.ErrForm},
		{"g0(" + nine + ",)", api.ErrForm},
		{"9()", api.ErrForm},
		{" ", api.ErrForm},
	} {
		checkWrong(t, full+x.line, x.want, 65, 1)
		for _, behind := range []string{"", "9()\n", "g0()\n", "i()\n", "i()", "\n", "i(" + nine + ")\n"} {
			checkWrong(t, full+x.line+"\n"+behind, x.want, 65, 1)
		}
	}
	checkWrong(t, full+"\n", api.ErrForm, 65, 1)
	checkWrong(t, strings.TrimSuffix(full, "\n"), api.ErrForm, 64, len(lines[63])+1)
}

// Where no line feed stands at the end, that is told behind the last byte, if nothing else is wrong.
func TestNoLineFeedAtTheEnd(t *testing.T) {
	checkWrong(t, "p()", api.ErrForm, 1, 4)
	checkWrong(t, "p(int)", api.ErrForm, 1, 7)
	checkWrong(t, "q()\nr()", api.ErrForm, 2, 4)
	checkWrong(t, "q()\nlogin(string,int)", api.ErrForm, 2, 18)
	checkWrong(t, "q()\n"+long(32)+"(int,int,int,int,int,int,int,int)", api.ErrForm, 2, 66)
	for count := 1; count <= 64; count++ {
		lines := goodLines(count)
		text := textOf(lines...)
		checkWrong(t, text[:len(text)-1], api.ErrForm, count, len(lines[count-1])+1)
	}
	for _, x := range []fault{
		{"q()", api.ErrName},
		{"q(int)", api.ErrName},
		{"q(" + nine + ")", api.ErrName},
		{"r(" + nine + ")", api.ErrLimit},
		{"q(", api.ErrForm},
		{"r(int", api.ErrForm},
		{"q() ", api.ErrForm},
		{"r(" + nine + ",)", api.ErrForm},
		{"r()\r", api.ErrForm},
	} {
		checkWrong(t, "q()\n"+x.line, x.want, 2, 1)
		checkWrong(t, "p()\nq()\nz()\n"+x.line, x.want, 4, 1)
	}
}

// Of what is wrong the first is told: line by line, and of a line its form, then its name, then how much there is.
func TestFirstFault(t *testing.T) {
	full := "f(" + nine + ")"
	for _, x := range []struct {
		lines []string
		want  api.Errno
		line  int
	}{
		{[]string{"q()", "9()", "q()", full}, api.ErrForm, 2},
		{[]string{"q()", "9()", full, "q()"}, api.ErrForm, 2},
		{[]string{"q()", "q()", "9()", full}, api.ErrName, 2},
		{[]string{"q()", "q()", full, "9()"}, api.ErrName, 2},
		{[]string{"q()", full, "q()", "9()"}, api.ErrLimit, 2},
		{[]string{"q()", full, "9()", "q()"}, api.ErrLimit, 2},
		{[]string{full, full}, api.ErrLimit, 1},
		{[]string{"f()", full}, api.ErrName, 2},
		{[]string{"f()", full + ")"}, api.ErrForm, 2},
		{[]string{"f()", "f(Int)"}, api.ErrForm, 2},
		{[]string{"", "q()"}, api.ErrForm, 1},
		{[]string{"q()", "", "q()"}, api.ErrForm, 2},
		{[]string{"q()", "r(Int)", "q()"}, api.ErrForm, 2},
		{[]string{"9()", "9()"}, api.ErrForm, 1},
	} {
		checkWrong(t, textOf(x.lines...), x.want, x.line, 1)
		checkWrong(t, strings.TrimSuffix(textOf(x.lines...), "\n"), x.want, x.line, 1)
	}
}

// All texts of up to six pieces, against the model.
func TestAllTextsOfPieces(t *testing.T) {
	texts := []string{""}
	taken := 0
	for range 6 {
		var more []string
		for _, text := range texts {
			for _, piece := range []string{"p", "q", "(", ")", "()", "int", "string", ",", "\n"} {
				more = append(more, text+piece)
			}
		}
		for _, text := range more {
			if checkModel(t, text) {
				taken++
				checkBack(t, text)
			}
		}
		texts = more
	}
	if taken < 300 {
		t.Errorf("only %d of the texts are signatures'", taken)
	}
}

// All texts of up to four lines, good ones and bad, with a line feed at the end and without.
func TestAllTextsOfLines(t *testing.T) {
	texts := []string{""}
	for range 4 {
		var more []string
		for _, text := range texts {
			for _, line := range []string{"p()", "p(string)", "q(int,int)", "r(int,string,int,string,int,string,int,string)", "r(" + nine + ")", "9()", "", " ", "q(int,)", long(32) + "()", long(33) + "(int)"} {
				more = append(more, text+line+"\n")
			}
		}
		for _, text := range more {
			checkModel(t, text)
			checkModel(t, strings.TrimSuffix(text, "\n"))
			checkBack(t, text)
		}
		texts = more
	}
}

func TestThereAndBack(t *testing.T) {
	var all [][]api.Pred
	for i := range 511 {
		for _, name := range []string{"p", "_", "Z9", "int", "string", long(32)} {
			all = append(all, []api.Pred{pred(name, argsOfNumber(i)...)})
		}
		all = append(all, []api.Pred{pred("a", argsOfNumber(i)...), pred("b", argsOfNumber(510-i)...), pred("c", argsOfNumber(i*7%511)...)})
	}
	for size := 1; size <= 32; size++ {
		all = append(all, []api.Pred{pred(long(size)), pred("_"+long(size-1), api.Int), pred("A"+strings.Repeat("9", size-1), api.Str)})
	}
	for count := range 65 {
		all = append(all, numbered(count))
	}
	widest := numbered(64)
	for i := range widest {
		widest[i] = pred(fmt.Sprintf("%s%02d", long(30), i), 2, 2, 2, 2, 2, 2, 2, 2)
	}
	for _, l := range append(all, widest) {
		text, e := Print(l)
		if want := modelPrint(l); text != want || e != api.OK {
			t.Errorf("Print(%s) = %s, %d, want %s", told(l), short(text), e, short(want))
		}
		checkParse(t, text, l)
		checkBack(t, text)
	}
}

// touched are a text's neighbours: with one byte left out, put in or another one.
func touched(text, bytes string) []string {
	var near []string
	for at := range len(text) + 1 {
		front, behind := text[:at], text[at:]
		for i := range len(bytes) {
			near = append(near, front+bytes[i:i+1]+behind)
			if behind != "" {
				near = append(near, front+bytes[i:i+1]+behind[1:])
			}
		}
		if behind != "" {
			near = append(near, front+behind[1:])
		}
	}
	return near
}

// A text with one byte changed, put in or left out is either not taken, or read as a signature with just that text.
func TestOneByteTouched(t *testing.T) {
	every := make([]byte, 256)
	for c := range every {
		every[c] = byte(c)
	}
	eight := "int,string,int,string,int,string,int,string"
	for _, text := range []string{
		"",
		"p()\n",
		"p(int,string)\n",
		"a()\nb()\n",
		"a(string)\naa(int)\n",
		"login(string,int)\nq()\n_1()\n",
		"p(" + eight + ")\n",
		long(32) + "(int)\n" + long(31) + "()\n",
	} {
		for _, near := range touched(text, string(every)) {
			checkModel(t, near)
			checkBack(t, near)
		}
	}
	for _, text := range []string{modelPrint(numbered(12)), textOf(goodLines(64)...)} {
		for _, near := range touched(text, "pg0_(), \n\r\x00\xff") {
			checkModel(t, near)
			checkBack(t, near)
		}
	}
}

// Two texts that are taken, one behind the other, are taken together, if their names are unlike.
func TestTextsBehindOneAnother(t *testing.T) {
	all := modelPrint(numbered(64))
	for at := range len(all) + 1 {
		front, behind := all[:at], all[at:]
		whole := at == 0 || front[at-1] == '\n'
		_, e, _ := Parse(front)
		if (e == api.OK) != whole {
			t.Errorf("Parse(%s) = %d", short(front), e)
		}
		if whole {
			checkParse(t, behind+front, mustParse(t, behind+front))
		}
	}
}

// crowded is a signature whose lists lie side by side in one list, with room behind that something stands in.
func crowded() ([]api.Pred, []int) {
	cells := []int{1, 2, 2, 1, 1, 7, 8, 9}
	l := append(make([]api.Pred, 0, 8), api.Pred{Name: "a", Args: cells[:2]}, api.Pred{Name: "b", Args: cells[2:2]}, api.Pred{Name: "c", Args: cells[2:5]}, pred("behind", 5))
	return l[:3], cells
}

func TestLeavesWhatIsHandedIn(t *testing.T) {
	l, cells := crowded()
	for range 3 {
		checkPrint(t, l, "a(int,string)\nb()\nc(string,int,int)\n", api.OK)
		checkPrint(t, l[:4], "", api.ErrType)
		checkLine(t, l[0], "a(int,string)", api.OK)
		checkLine(t, l[1], "b()", api.OK)
		checkLine(t, l[:4][3], "", api.ErrType)
	}
	want := []api.Pred{pred("a", 1, 2), pred("b"), pred("c", 2, 1, 1), pred("behind", 5)}
	if !sig.Same(l[:4], want) || !slices.Equal(cells, []int{1, 2, 2, 1, 1, 7, 8, 9}) {
		t.Errorf("what was handed in became %s, %v", told(l[:4]), cells)
	}
}

// What is in memory behind a list's end is none of it, and what was answered stays whatever is written into that list.
func TestKeepsNothing(t *testing.T) {
	l, cells := crowded()
	text, _ := Print(l)
	line, _ := Line(l[0])
	cells[0], l[1].Name = 2, "z"
	checkPrint(t, l, "a(string,string)\nz()\nc(string,int,int)\n", api.OK)
	checkLine(t, l[0], "a(string,string)", api.OK)
	l[1].Name = "a"
	checkPrint(t, l, "", api.ErrName)
	checkPrint(t, l[:1], "a(string,string)\n", api.OK)
	if text != "a(int,string)\nb()\nc(string,int,int)\n" || line != "a(int,string)" {
		t.Errorf("what was answered became %q, %q", text, line)
	}
}

func TestParseAnswersNewMemory(t *testing.T) {
	text := "a(int,string,int)\nb(int)\nc()\nd(string,string,string,string,string)\ne(int,string,int)\n"
	want := mustParse(t, text)
	kept, _, _ := Parse(text)
	for i := range want {
		l, _, _ := Parse(text)
		_ = append(l[i].Args, 9, 9, 9, 9, 9, 9, 9, 9)
		for k := range l[i].Args {
			l[i].Args[k] = 9
		}
		if !sig.Same(l[:i], want[:i]) || !sig.Same(l[i+1:], want[i+1:]) {
			t.Errorf("with the arguments of %d written into, it is %s", i, told(l))
		}
		_ = append(l, pred("more"))
		clear(l)
		checkParse(t, text, want)
	}
	if !sig.Same(kept, want) {
		t.Errorf("with other answers written into, the first one is %s", told(kept))
	}
}

// An answer hangs on its text alone, not on the ones ahead.
func TestParseKeepsNothing(t *testing.T) {
	for range 3 {
		checkParse(t, "p()\n", []api.Pred{pred("p")})
		checkWrong(t, "p()\np()\n", api.ErrName, 2, 1)
		checkParse(t, "p(int)\n", []api.Pred{pred("p", 1)})
		checkWrong(t, textOf(goodLines(65)...), api.ErrLimit, 65, 1)
		checkWrong(t, "p", api.ErrForm, 1, 1)
		checkParse(t, "", nil)
	}
}

// Many bytes and lines, right and wrong ones, are gone through, too.
func TestMuch(t *testing.T) {
	checkWrong(t, strings.Repeat("\n", 1<<20), api.ErrForm, 1, 1)
	checkWrong(t, strings.Repeat("(", 1<<20), api.ErrForm, 1, 1)
	checkWrong(t, "p("+strings.Repeat(",", 1<<20)+")\n", api.ErrForm, 1, 1)
	checkWrong(t, "p("+strings.Repeat("int,", 1<<20)+")\n", api.ErrForm, 1, 1)
	checkWrong(t, "p("+strings.Repeat("int,", 1<<20)+"int)\n", api.ErrLimit, 1, 1)
	checkWrong(t, "p("+strings.Repeat("int,", 1<<20)+"int)", api.ErrLimit, 1, 1)
	checkWrong(t, "p()\n"+long(1<<20)+"()\n", api.ErrForm, 2, 1)
	checkWrong(t, strings.Repeat("p()\n", 1<<18), api.ErrName, 2, 1)
}
