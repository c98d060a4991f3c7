package step_test

import (
	"bytes"
	"fmt"
	"math"
	"slices"
	"strings"
	"testing"

	"shipwright/api"
	"shipwright/step"
)

// takes is what a command takes, as the chapter tells it.
type takes struct {
	name                string
	leastArgs, mostArgs int
	lits                int
	mostN               int
}

// commands are those of the chapter by their numbers; 0 is no command's.
func commands() []takes {
	return []takes{
		api.CCopy:    {"copy", 1, 1, 0, 0},
		api.CNeed:    {"need", 1, 1, 0, 0},
		api.CSort:    {"sort", 1, 1, 0, 0},
		api.CCount:   {"count", 1, 1, 0, 0},
		api.CConcat:  {"concat", 0, 6, 0, 0},
		api.CLiteral: {"literal", 0, 0, 1, 0},
		api.CSelect:  {"select", 1, 1, 1, 0},
		api.CReplace: {"replace", 1, 1, 2, 0},
		api.CPrefix:  {"prefix", 1, 1, 0, 2000},
	}
}

// noCommands are numbers that are no command's.
func noCommands() []int {
	return []int{0, -1, -5, -9, 10, 11, 255, 257, 261, 1<<32 + 1, 1<<32 + 5, math.MaxInt, math.MinInt}
}

// numbers are values of N, at and beyond both ends of those that prefix takes.
func numbers() []int {
	return []int{math.MinInt, -1 << 32, -2001, -2000, -1, 0, 1, 2, 1000, 1999, 2000, 2001, 1 << 32, 1<<32 + 1, math.MaxInt}
}

// names returns n names.
func names(n int) []string {
	all := make([]string, n)
	for i := range all {
		all[i] = fmt.Sprintf("x%d", i)
	}
	return all
}

// texts returns n strings that each command takes.
func texts(n int) []string {
	all := make([]string, n)
	for i := range all {
		all[i] = fmt.Sprintf("t%d", i)
	}
	return all
}

// stepOf returns the step of op with as many Args and Lits.
func stepOf(op, args, lits, n int) api.Step {
	return api.Step{Out: "o", Op: op, Args: names(args), Lits: texts(lits), N: n}
}

// ok returns the value b.
func ok(b string) api.Val { return api.Val{Ok: true, B: b} }

// oks returns the values bs.
func oks(bs ...string) []api.Val {
	vs := make([]api.Val, 0, len(bs))
	for _, b := range bs {
		vs = append(vs, ok(b))
	}
	return vs
}

// some returns n values.
func some(n int) []api.Val {
	vs := make([]api.Val, n)
	for i := range vs {
		vs[i] = ok(fmt.Sprintf("v%d\n", i))
	}
	return vs
}

// copyOf returns the step of copy.
func copyOf() api.Step { return api.Step{Out: "o", Op: api.CCopy, Args: names(1)} }

// needOf returns the step of need.
func needOf() api.Step { return api.Step{Out: "o", Op: api.CNeed, Args: names(1)} }

// sortOf returns the step of sort.
func sortOf() api.Step { return api.Step{Out: "o", Op: api.CSort, Args: names(1)} }

// countOf returns the step of count.
func countOf() api.Step { return api.Step{Out: "o", Op: api.CCount, Args: names(1)} }

// concatOf returns the step of concat with n Args.
func concatOf(n int) api.Step { return api.Step{Out: "o", Op: api.CConcat, Args: names(n)} }

// literalOf returns the step of literal.
func literalOf(lit string) api.Step {
	return api.Step{Out: "o", Op: api.CLiteral, Lits: []string{lit}}
}

// selectOf returns the step of select.
func selectOf(lit string) api.Step {
	return api.Step{Out: "o", Op: api.CSelect, Args: names(1), Lits: []string{lit}}
}

// replaceOf returns the step of replace.
func replaceOf(lit, by string) api.Step {
	return api.Step{Out: "o", Op: api.CReplace, Args: names(1), Lits: []string{lit, by}}
}

// prefixOf returns the step of prefix.
func prefixOf(n int) api.Step { return api.Step{Out: "o", Op: api.CPrefix, Args: names(1), N: n} }

// oneArgument are steps of all commands that take one argument.
func oneArgument() []api.Step {
	return []api.Step{copyOf(), needOf(), sortOf(), countOf(), concatOf(1), selectOf(""), selectOf("\n"), selectOf("zz"),
		replaceOf("zz", ""), replaceOf("a", "b"), prefixOf(0), prefixOf(1), prefixOf(2000)}
}

// wordsOf calls f with every string of at most most bytes of the alphabet.
func wordsOf(alphabet string, most int, f func(string)) {
	var grow func(s string)
	grow = func(s string) {
		f(s)
		if len(s) == most {
			return
		}
		for i := range len(alphabet) {
			grow(s + alphabet[i:i+1])
		}
	}
	grow("")
}

// plainLines returns the lines of b, byte by byte.
func plainLines(b string) []string {
	var lines []string
	begin := 0
	for i := range len(b) {
		if b[i] == 10 {
			lines = append(lines, b[begin:i])
			begin = i + 1
		}
	}
	if begin < len(b) {
		lines = append(lines, b[begin:])
	}
	return lines
}

// ended returns the lines, each followed by a newline.
func ended(lines []string) string {
	text := ""
	for _, l := range lines {
		text += l + "\n"
	}
	return text
}

// plainSort returns the lines of b in ascending order, by insertion.
func plainSort(b string) string {
	var sorted []string
	for _, l := range plainLines(b) {
		at := 0
		for at < len(sorted) && bytes.Compare([]byte(sorted[at]), []byte(l)) <= 0 {
			at++
		}
		sorted = slices.Insert(sorted, at, l)
	}
	return ended(sorted)
}

// standsAt reports whether lit stands in b at the place at.
func standsAt(b string, at int, lit string) bool {
	return at+len(lit) <= len(b) && b[at:at+len(lit)] == lit
}

// plainSelect returns the lines of b that contain lit, place by place.
func plainSelect(b, lit string) string {
	var kept []string
	for _, l := range plainLines(b) {
		for at := 0; at <= len(l); at++ {
			if standsAt(l, at, lit) {
				kept = append(kept, l)
				break
			}
		}
	}
	return ended(kept)
}

// plainReplace returns b with by for lit, place by place.
func plainReplace(b, lit, by string) string {
	text := ""
	for at := 0; at < len(b); {
		if standsAt(b, at, lit) {
			text += by
			at += len(lit)
			continue
		}
		text += b[at : at+1]
		at++
	}
	return text
}

// wantLines fails unless Lines(b) is want.
func wantLines(t *testing.T, b string, want []string) {
	t.Helper()
	if got := step.Lines(b); !slices.Equal(got, want) {
		t.Errorf("P7.1: Lines(%.300q) = %.300q, not %.300q", b, got, want)
	}
}

// wantMay fails unless May(s) is want.
func wantMay(t *testing.T, s api.Step, want bool) {
	t.Helper()
	if got := step.May(s); got != want {
		t.Errorf("P7.1: May(%.300s) = %v, not %v", fmt.Sprintf("%+v", s), got, want)
	}
}

// wantDo fails unless Do(s, args...) is want.
func wantDo(t *testing.T, s api.Step, args []api.Val, want api.Val) {
	t.Helper()
	if got := step.Do(s, args...); got != want {
		t.Errorf("P7.2: Do(%.300s, %.300s) = {%v %.300q} of %d bytes, not {%v %.300q} of %d bytes",
			fmt.Sprintf("%+v", s), fmt.Sprintf("%+v", args), got.Ok, got.B, len(got.B), want.Ok, want.B, len(want.B))
	}
}

// wantText fails unless Do(s, args...) is the value b.
func wantText(t *testing.T, s api.Step, b string, args ...string) {
	t.Helper()
	wantDo(t, s, oks(args...), ok(b))
}

// wantNone fails unless Do(s, args...) is not Ok, and without contents.
func wantNone(t *testing.T, s api.Step, args ...api.Val) {
	t.Helper()
	wantDo(t, s, args, api.Val{})
}

func TestLines(t *testing.T) {
	wantLines(t, "", nil)
	wantLines(t, "a\n\nb", []string{"a", "", "b"})
	wantLines(t, "a\n\nb\n", []string{"a", "", "b"})
	wantLines(t, "a\n", []string{"a"})
	wantLines(t, "a", []string{"a"})
	wantLines(t, "a\n\n", []string{"a", ""})
	wantLines(t, "\n", []string{""})
	wantLines(t, "\n\n", []string{"", ""})
	wantLines(t, "\n\n\n", []string{"", "", ""})
	wantLines(t, "\na", []string{"", "a"})
	wantLines(t, "\n\na\n", []string{"", "", "a"})
	wantLines(t, " \n \t", []string{" ", " \t"})
	wantLines(t, "a\\nb", []string{"a\\nb"})
	wantLines(t, "a\u0085b\u2028c\u2029d", []string{"a\u0085b\u2028c\u2029d"})
	wantLines(t, "\xff\n\xc3\n\xa4\x00", []string{"\xff", "\xc3", "\xa4\x00"})
	wantLines(t, "one line\nand another\nand the last", []string{"one line", "and another", "and the last"})
}

// The newline is the only byte that ends a line, and only it is left out.
func TestLinesOfEachByte(t *testing.T) {
	for c := range 256 {
		s := string([]byte{byte(c)})
		if c == 10 {
			continue
		}
		wantLines(t, s, []string{s})
		wantLines(t, s+"\n", []string{s})
		wantLines(t, "a"+s+"b\n"+s, []string{"a" + s + "b", s})
		wantLines(t, s+s+"\n\n"+s+"\n", []string{s + s, "", s})
	}
}

func TestLinesOfAllShortTexts(t *testing.T) {
	wordsOf("ab\r\n", 6, func(b string) {
		wantLines(t, b, plainLines(b))
	})
}

func TestLinesOfLongTexts(t *testing.T) {
	const n = 1 << 20
	wantLines(t, strings.Repeat("\n", n), make([]string, n))
	wantLines(t, strings.Repeat("ab\n", n), slices.Repeat([]string{"ab"}, n))
	wantLines(t, strings.Repeat("ab\n", n)+"c", append(slices.Repeat([]string{"ab"}, n), "c"))
	wantLines(t, strings.Repeat("ab", n), []string{strings.Repeat("ab", n)})
	wantLines(t, strings.Repeat("ab", n)+"\n", []string{strings.Repeat("ab", n)})
}

// What is done to one answer, its spare room among that, does not show in another.
func TestLinesAreNew(t *testing.T) {
	const b = "c\nb\na\n\nd"
	first, second := step.Lines(b), step.Lines(b)
	for i := range first[:cap(first)] {
		first[:cap(first)][i] = "changed"
	}
	if want := plainLines(b); !slices.Equal(second, want) || !slices.Equal(step.Lines(b), want) {
		t.Errorf("P7.1: two answers of Lines share memory")
	}
}

// Every number of Args and of Lits, with every number of N, for every command.
func TestMayOfEachCommand(t *testing.T) {
	for op, c := range commands() {
		for args := range 9 {
			for lits := range 5 {
				for _, n := range numbers() {
					want := op != 0 && c.leastArgs <= args && args <= c.mostArgs && lits == c.lits && 0 <= n && n <= c.mostN
					wantMay(t, stepOf(op, args, lits, n), want)
				}
			}
		}
	}
}

func TestMayOfExamples(t *testing.T) {
	wantMay(t, concatOf(6), true)
	wantMay(t, concatOf(7), false)
	wantMay(t, concatOf(0), true)
	wantMay(t, replaceOf("a", ""), true)
	wantMay(t, replaceOf("", "a"), false)
	wantMay(t, replaceOf("", ""), false)
	wantMay(t, replaceOf("a", "a"), true)
	wantMay(t, prefixOf(0), true)
	wantMay(t, prefixOf(2000), true)
	wantMay(t, prefixOf(2001), false)
	wantMay(t, prefixOf(-1), false)
	wantMay(t, stepOf(api.CCopy, 1, 0, 0), true)
	wantMay(t, stepOf(api.CCopy, 1, 0, 1), false)
	wantMay(t, literalOf(""), true)
	wantMay(t, selectOf(""), true)
	wantMay(t, api.Step{}, false)
}

func TestMayOfNoCommand(t *testing.T) {
	for _, op := range noCommands() {
		for args := range 8 {
			for lits := range 4 {
				for _, n := range []int{0, 1, 2000} {
					wantMay(t, stepOf(op, args, lits, n), false)
				}
			}
		}
	}
}

// The number of bytes counts, not that of letters, whatever the bytes are.
func TestMayOfLongLits(t *testing.T) {
	for _, l := range []string{"l", "\n", "\x00", "\xff", "\""} {
		for n, want := range map[int]bool{1: true, 99: true, 100: true, 101: false, 102: false, 200: false, 1000: false, 1 << 20: false} {
			wantMay(t, literalOf(strings.Repeat(l, n)), want)
			wantMay(t, selectOf(strings.Repeat(l, n)), want)
			wantMay(t, replaceOf(strings.Repeat(l, n), ""), want)
			wantMay(t, replaceOf(strings.Repeat(l, n), "x"), want)
			wantMay(t, replaceOf("x", strings.Repeat(l, n)), want)
			wantMay(t, replaceOf(strings.Repeat(l, n), strings.Repeat(l, 100)), want)
			wantMay(t, replaceOf(strings.Repeat(l, 100), strings.Repeat(l, n)), want)
			wantMay(t, replaceOf("", strings.Repeat(l, n)), false)
		}
	}
	wantMay(t, literalOf(strings.Repeat("\u00e4", 50)), true)
	wantMay(t, literalOf(strings.Repeat("\u00e4", 51)), false)
	wantMay(t, literalOf(strings.Repeat("\u20ac", 33)), true)
	wantMay(t, literalOf(strings.Repeat("\u20ac", 34)), false)
}

// Lists that are nil and empty ones are alike.
func TestMayOfEmptyLists(t *testing.T) {
	for op := range commands() {
		for _, none := range [][]string{nil, {}, make([]string, 0, 3)} {
			wantMay(t, api.Step{Op: op, Args: none, Lits: none}, op == api.CConcat)
			wantMay(t, api.Step{Op: op, Args: none, Lits: texts(1)}, op == api.CLiteral)
			wantMay(t, api.Step{Op: op, Args: names(1), Lits: none},
				op != 0 && op != api.CLiteral && op != api.CSelect && op != api.CReplace)
		}
	}
}

// Only the number of Args counts; what the names are is no matter of May's.
func TestMayOfAnyNames(t *testing.T) {
	for _, name := range []string{"", "in", "a//b", "x\n", "\xff", strings.Repeat("n", 1000)} {
		wantMay(t, api.Step{Out: name, Op: api.CCopy, Args: []string{name}}, true)
		wantMay(t, api.Step{Out: name, Op: api.CConcat, Args: []string{name, name, name}}, true)
		wantMay(t, api.Step{Out: name, Op: api.CLiteral, Lits: texts(1)}, true)
		wantMay(t, api.Step{Out: name, Op: api.CPrefix, Args: []string{name}, N: 7}, true)
	}
}

func TestMayOfLongLists(t *testing.T) {
	long := make([]string, 1<<20)
	for op := range commands() {
		wantMay(t, api.Step{Op: op, Args: long}, false)
		wantMay(t, api.Step{Op: op, Args: names(1), Lits: long}, false)
		wantMay(t, api.Step{Op: op, Args: long, Lits: long}, false)
	}
}

func TestDoOfExamples(t *testing.T) {
	wantText(t, sortOf(), "\nB\na\nb\n", "b\na\n\nB")
	wantText(t, countOf(), "2\n", "a\nb")
	wantText(t, selectOf("a"), "ba\na\n", "ba\nc\na")
	wantText(t, replaceOf("aa", "b"), "bba", "aaaaa")
	wantNone(t, needOf(), ok(""))
}

func TestCopyAndNeed(t *testing.T) {
	for _, b := range []string{"a", "a\n", "a\nb", "\n", "\n\n", " ", "0", "\x00", "\xff\xc3", "b\na\n\nB", strings.Repeat("y", 2000)} {
		wantText(t, copyOf(), b, b)
		wantText(t, needOf(), b, b)
	}
	wantText(t, copyOf(), "", "")
	for c := range 256 {
		b := string([]byte{byte(c)})
		wantText(t, copyOf(), b, b)
		wantText(t, needOf(), b, b)
	}
}

func TestSort(t *testing.T) {
	wantText(t, sortOf(), "", "")
	wantText(t, sortOf(), "\n", "\n")
	wantText(t, sortOf(), "a\n", "a")
	wantText(t, sortOf(), "a\n", "a\n")
	wantText(t, sortOf(), "a\na\nb\nb\n", "b\na\nb\na")
	wantText(t, sortOf(), "\n\na\n", "\na\n\n")
	wantText(t, sortOf(), "10\n9\nA\nZ\na\nz\n", "z\na\nZ\nA\n9\n10\n")
	// A line stands ahead of those that it begins, also where they go on with a byte below the newline.
	wantText(t, sortOf(), "a\na\x00\na\x09\na\x0b\n", "a\x0b\na\x09\na\x00\na\n")
	wantText(t, sortOf(), "a\nab\nabc\n", "abc\nab\na\n")
	wantText(t, sortOf(), "\x00\n\x7f\n\x80\n\xc3\xa4\n\xff\n", "\xff\n\xc3\xa4\n\x80\n\x7f\n\x00\n")
	wantText(t, sortOf(), "a\r\nb\n", "b\na\r\n")
}

func TestCount(t *testing.T) {
	wantText(t, countOf(), "0\n", "")
	wantText(t, countOf(), "1\n", "\n")
	wantText(t, countOf(), "1\n", "a")
	wantText(t, countOf(), "1\n", "a\n")
	wantText(t, countOf(), "2\n", "\n\n")
	wantText(t, countOf(), "2\n", "\na")
	wantText(t, countOf(), "3\n", "a\n\nb\n")
	wantText(t, countOf(), "9\n", strings.Repeat("a\n", 9))
	wantText(t, countOf(), "10\n", strings.Repeat("a\n", 9)+"a")
	wantText(t, countOf(), "1000\n", strings.Repeat("a\n", 1000))
	wantText(t, countOf(), "2000\n", strings.Repeat("\n", 2000))
}

func TestConcat(t *testing.T) {
	wantText(t, concatOf(0), "")
	wantText(t, concatOf(1), "", "")
	wantText(t, concatOf(1), "a\n", "a\n")
	wantText(t, concatOf(2), "ab", "a", "b")
	wantText(t, concatOf(2), "ba", "b", "a")
	wantText(t, concatOf(2), "a\n\nb", "a\n", "\nb")
	wantText(t, concatOf(3), "aa", "a", "", "a")
	wantText(t, concatOf(4), "\xc3\xa4\x00\xff", "\xc3", "\xa4", "\x00", "\xff")
	wantText(t, concatOf(5), "12345", "1", "2", "3", "4", "5")
	wantText(t, concatOf(6), "fedcba", "f", "e", "d", "c", "b", "a")
	wantText(t, concatOf(6), "", "", "", "", "", "", "")
	// One name twice has two values.
	wantText(t, api.Step{Op: api.CConcat, Args: []string{"x", "x"}}, "ab", "a", "b")
}

func TestLiteral(t *testing.T) {
	for _, l := range []string{"", "l", "a\nb", "\n", "\x00\xff", "\\n", "\"", strings.Repeat("l", 100)} {
		wantText(t, literalOf(l), l)
	}
}

func TestSelect(t *testing.T) {
	wantText(t, selectOf("a"), "", "")
	wantText(t, selectOf("a"), "", "b\nc\n")
	wantText(t, selectOf("a"), "a\n", "a")
	wantText(t, selectOf("a"), "a\na\n", "a\na\n")
	wantText(t, selectOf("a"), "za\naz\nzaz\n", "za\nz\naz\n\nA\nzaz")
	wantText(t, selectOf("ab"), "aab\nab\n", "aab\na\nb\nba\nab")
	wantText(t, selectOf("a.b"), "a.b\n", "axb\na.b\n")
	// Each line contains nothing, and none contains a newline.
	wantText(t, selectOf(""), "", "")
	wantText(t, selectOf(""), "\n", "\n")
	wantText(t, selectOf(""), "b\n\na\n", "b\n\na")
	wantText(t, selectOf("\n"), "", "a\n\nb\n")
	wantText(t, selectOf("a\nb"), "", "a\nb\n")
	wantText(t, selectOf("\xa4"), "\xc3\xa4\n", "\xc3\xa4\n\xc3\n")
	wantText(t, selectOf("\x00"), "\x00\n", "\x00\n0\n")
	wantText(t, selectOf(strings.Repeat("l", 100)), strings.Repeat("l", 100)+"\n",
		strings.Repeat("l", 99)+"\n"+strings.Repeat("l", 100))
}

func TestReplace(t *testing.T) {
	wantText(t, replaceOf("a", "b"), "", "")
	wantText(t, replaceOf("a", "b"), "cc", "cc")
	wantText(t, replaceOf("a", "b"), "b", "a")
	wantText(t, replaceOf("a", "b"), "bbcb\n", "abca\n")
	// Occurrences that overlap count from the beginning; those that touch all count.
	wantText(t, replaceOf("aa", "b"), "b", "aa")
	wantText(t, replaceOf("aa", "b"), "ba", "aaa")
	wantText(t, replaceOf("aa", "b"), "bb", "aaaa")
	wantText(t, replaceOf("aba", "x"), "xba", "ababa")
	wantText(t, replaceOf("aba", "x"), "xbx", "abababa")
	wantText(t, replaceOf("ab", "x"), "xxx", "ababab")
	// What was put in is not looked at again.
	wantText(t, replaceOf("a", "aa"), "aa\naa", "a\na")
	wantText(t, replaceOf("a", "ba"), "baba", "aa")
	wantText(t, replaceOf("ab", "a"), "ab", "abb")
	wantText(t, replaceOf("ab", "b"), "ab", "aab")
	wantText(t, replaceOf("ab", ""), "ab", "aabb")
	// Nothing in its place.
	wantText(t, replaceOf("a", ""), "", "aaa")
	wantText(t, replaceOf("a", ""), "bc", "abaca")
	// The whole text, newlines and bytes of a letter.
	wantText(t, replaceOf("a\nb", "x"), "x", "a\nb")
	wantText(t, replaceOf("\n", " "), "a b ", "a\nb\n")
	wantText(t, replaceOf("b", "\n"), "a\nc", "abc")
	wantText(t, replaceOf("\xa4", "x"), "\xc3x", "\u00e4")
	wantText(t, replaceOf("\x00", "\xff"), "a\xff", "a\x00")
	wantText(t, replaceOf("a", "a"), "aba", "aba")
	wantText(t, replaceOf("abc", "x"), "ab", "ab")
	wantText(t, replaceOf("a", "$0\\1&"), "$0\\1&", "a")
}

func TestPrefix(t *testing.T) {
	wantText(t, prefixOf(0), "", "abc")
	wantText(t, prefixOf(1), "a", "abc")
	wantText(t, prefixOf(2), "ab", "abc")
	wantText(t, prefixOf(3), "abc", "abc")
	wantText(t, prefixOf(4), "abc", "abc")
	wantText(t, prefixOf(2000), "abc", "abc")
	wantText(t, prefixOf(0), "", "")
	wantText(t, prefixOf(2000), "", "")
	wantText(t, prefixOf(1), "\n", "\n\n")
	wantText(t, prefixOf(2), "a\n", "a\nb")
	// Bytes count, not letters.
	wantText(t, prefixOf(1), "\xc3", "\u00e4b")
	wantText(t, prefixOf(2), "\u00e4", "\u00e4b")
	wantText(t, prefixOf(3), "\xff\x00\xfe", "\xff\x00\xfe\x01")
}

// All commands of one argument on all short texts, against what is worked out byte by byte.
func TestDoOnAllShortTexts(t *testing.T) {
	lits := []string{"", "a", "b", "\n", "aa", "ab", "ba", "a\n", "\na", "aba"}
	wordsOf("ab\n", 6, func(b string) {
		wantText(t, copyOf(), b, b)
		wantDo(t, needOf(), oks(b), api.Val{Ok: b != "", B: b})
		wantText(t, sortOf(), plainSort(b), b)
		wantText(t, countOf(), fmt.Sprintf("%d\n", len(plainLines(b))), b)
		wantText(t, concatOf(3), b+"-"+b, b, "-", b)
		for n := range 8 {
			wantText(t, prefixOf(n), b[:min(n, len(b))], b)
		}
		for _, lit := range lits {
			wantText(t, selectOf(lit), plainSelect(b, lit), b)
			for _, by := range lits {
				if lit == "" {
					wantNone(t, replaceOf(lit, by), ok(b))
				} else {
					wantText(t, replaceOf(lit, by), plainReplace(b, lit, by), b)
				}
			}
		}
	})
}

func TestDoOnEachByte(t *testing.T) {
	for c := range 256 {
		s := string([]byte{byte(c)})
		b := "m" + s + "n\n" + s + "\nz"
		wantText(t, copyOf(), b, b)
		wantText(t, needOf(), b, b)
		wantText(t, sortOf(), plainSort(b), b)
		wantText(t, countOf(), fmt.Sprintf("%d\n", len(plainLines(b))), b)
		wantText(t, concatOf(2), b+s, b, s)
		wantText(t, literalOf(s), s)
		wantText(t, selectOf(s), plainSelect(b, s), b)
		wantText(t, replaceOf(s, "--"), plainReplace(b, s, "--"), b)
		wantText(t, replaceOf("z", s), plainReplace(b, "z", s), b)
		wantText(t, prefixOf(2), "m"+s, b)
	}
}

// A step that is not valid yields nothing, with as many args as it has Args.
func TestDoOfStepsThatAreNotValid(t *testing.T) {
	for op, c := range commands() {
		for args := range 9 {
			for lits := range 5 {
				for _, n := range numbers() {
					valid := op != 0 && c.leastArgs <= args && args <= c.mostArgs && lits == c.lits && 0 <= n && n <= c.mostN
					if got := step.Do(stepOf(op, args, lits, n), some(args)...); got.Ok != valid || !valid && got.B != "" {
						t.Errorf("P7.2: Do of %s, %d Args, %d Lits and N %d = %+v", c.name, args, lits, n, got)
					}
				}
			}
		}
	}
	for _, op := range noCommands() {
		for args := range 8 {
			for lits := range 4 {
				wantNone(t, stepOf(op, args, lits, 0), some(args)...)
				wantNone(t, stepOf(op, args, lits, 5), some(args)...)
			}
		}
	}
	wantNone(t, api.Step{})
	wantNone(t, replaceOf("", "x"), ok("abc"))
	wantNone(t, replaceOf("", ""), ok("abc"))
	wantNone(t, literalOf(strings.Repeat("l", 101)))
	wantNone(t, selectOf(strings.Repeat("l", 101)), ok("abc"))
	wantNone(t, replaceOf("a", strings.Repeat("l", 101)), ok("abc"))
	wantNone(t, replaceOf(strings.Repeat("l", 101), "a"), ok("abc"))
	wantNone(t, prefixOf(-1), ok("abc"))
	wantNone(t, prefixOf(2001), ok("abc"))
}

func TestMoreAndFewerArgs(t *testing.T) {
	for op, c := range commands() {
		if op == 0 {
			continue
		}
		for args := c.leastArgs; args <= c.mostArgs; args++ {
			s := stepOf(op, args, c.lits, 0)
			for n := range 10 {
				if got := step.Do(s, some(n)...); got.Ok != (n == args) || n != args && got.B != "" {
					t.Errorf("P7.2: Do of %s with %d Args and %d args = %+v", c.name, args, n, got)
				}
			}
			if args != 0 {
				wantNone(t, s)
				wantNone(t, s, []api.Val{}...)
			}
			wantNone(t, s, make([]api.Val, args+1)...)
			wantNone(t, s, some(1<<16)...)
		}
	}
	wantText(t, concatOf(0), "")
	wantText(t, literalOf("l"), "l")
	wantNone(t, literalOf("l"), ok(""))
	wantNone(t, concatOf(0), ok(""))
}

// An argument that is not Ok is felt, whatever the command makes of it, and whatever B it carries.
func TestArgsThatAreNotOk(t *testing.T) {
	for _, failed := range []api.Val{{}, {B: "lost"}, {B: "a\n"}, {B: "\n"}} {
		for _, s := range oneArgument() {
			wantNone(t, s, failed)
		}
		for n := 1; n <= 6; n++ {
			for at := range n {
				args := some(n)
				args[at] = failed
				wantNone(t, concatOf(n), args...)
			}
			wantNone(t, concatOf(n), slices.Repeat([]api.Val{failed}, n)...)
		}
		wantNone(t, concatOf(0), failed)
		wantNone(t, literalOf("l"), failed)
	}
}

// lines returns n lines of 10 bytes with their newlines.
func lines(n int) string { return strings.Repeat("012345678\n", n) }

func TestResultsAtTheLimit(t *testing.T) {
	y2000, y1999 := strings.Repeat("y", 2000), strings.Repeat("y", 1999)
	wantText(t, copyOf(), y2000, y2000)
	wantNone(t, copyOf(), ok(y2000+"y"))
	wantText(t, needOf(), y2000, y2000)
	wantNone(t, needOf(), ok(y2000+"y"))

	wantText(t, concatOf(1), y2000, y2000)
	wantNone(t, concatOf(1), ok(y2000+"y"))
	wantText(t, concatOf(2), y1999+"z", y1999, "z")
	wantNone(t, concatOf(2), ok(y1999), ok("zz"))
	wantText(t, concatOf(3), "z"+y1999, "", "z", y1999)
	wantNone(t, concatOf(3), ok(y2000), ok(""), ok("z"))
	wantText(t, concatOf(6), lines(200), lines(100), lines(20), lines(20), lines(20), lines(20), lines(20))
	wantNone(t, concatOf(6), oks(lines(100), lines(20), lines(20), lines(20), lines(20), lines(20)+"\n")...)
	wantNone(t, concatOf(6), slices.Repeat(oks(y2000), 6)...)

	// The newline that sort and select add counts.
	for _, s := range []api.Step{sortOf(), selectOf("y"), selectOf("")} {
		wantText(t, s, y1999+"\n", y1999)
		wantText(t, s, y1999+"\n", y1999+"\n")
		wantNone(t, s, ok(y2000))
		wantNone(t, s, ok(y2000+"\n"))
		wantText(t, s, "y\n"+strings.Repeat("y", 1997)+"\n", "y\n"+strings.Repeat("y", 1997))
		wantNone(t, s, ok("y\n"+strings.Repeat("y", 1998)))
	}
	wantText(t, sortOf(), lines(200), lines(200))
	wantNone(t, sortOf(), ok(lines(200)+"\n"))
	wantText(t, selectOf("5"), lines(200), lines(100)+"no\n"+lines(100))
	wantText(t, selectOf("5"), lines(200), strings.TrimSuffix(lines(200), "\n"))
	wantNone(t, selectOf("5"), ok(lines(200)+"5"))
	wantText(t, selectOf("5"), lines(199)+"123456789\n", lines(199)+"123456789")
	wantNone(t, selectOf("5"), ok(lines(199)+"1234567890"))

	h := strings.Repeat("h", 100)
	wantText(t, replaceOf("y", h), strings.Repeat("h", 2000), strings.Repeat("y", 20))
	wantNone(t, replaceOf("y", h), ok(strings.Repeat("y", 20)+"z"))
	wantNone(t, replaceOf("y", h), ok(strings.Repeat("y", 21)))
	wantText(t, replaceOf("y", "zz"), strings.Repeat("zz", 1000), strings.Repeat("y", 1000))
	wantNone(t, replaceOf("y", "zz"), ok(strings.Repeat("y", 1000)+"a"))
	wantText(t, replaceOf("yy", "zzz"), strings.Repeat("zzz", 666)+"ab", strings.Repeat("yy", 666)+"ab")
	wantNone(t, replaceOf("yy", "zzz"), ok(strings.Repeat("yy", 666)+"abc"))
	wantText(t, replaceOf("q", "zz"), y2000, y2000)
	wantNone(t, replaceOf("q", "zz"), ok(y2000+"y"))
	wantText(t, prefixOf(2000), y2000, y2000)
}

// Arguments beyond the limit of a result are no error: only the result is measured.
func TestLongArgs(t *testing.T) {
	long := strings.Repeat("y", 5000)
	wantText(t, prefixOf(2000), long[:2000], long)
	wantText(t, prefixOf(2000), long[:2000], long[:2001])
	wantText(t, prefixOf(0), "", long)
	wantText(t, countOf(), "1\n", long)
	wantText(t, countOf(), "5000\n", lines(5000))
	wantText(t, selectOf("z"), "", long)
	wantText(t, selectOf("z"), "z\n", lines(500)+"z\n"+lines(500))
	wantText(t, selectOf("z"), strings.Repeat("z\n", 1000), strings.Repeat("z\ny\n", 1000))
	wantNone(t, selectOf("z"), ok(strings.Repeat("z\ny\n", 1000)+"z"))
	wantText(t, replaceOf("y", ""), "", long)
	wantText(t, replaceOf("yy", "z"), strings.Repeat("z", 2000), strings.Repeat("yy", 2000))
	wantNone(t, replaceOf("yy", "z"), ok(strings.Repeat("yy", 2000)+"y"))
	wantText(t, replaceOf(strings.Repeat("y", 100), "z"), strings.Repeat("z", 50), long)
	wantNone(t, sortOf(), ok(long))
	wantNone(t, sortOf(), ok(lines(500)))
	wantNone(t, copyOf(), ok(long))
	wantNone(t, needOf(), ok(long))
	wantNone(t, concatOf(1), ok(long))
	wantNone(t, concatOf(2), ok(""), ok(long))
}

func TestHugeArgs(t *testing.T) {
	const n = 1 << 20
	for _, huge := range []string{strings.Repeat("y", n), strings.Repeat("\n", n), strings.Repeat("ay\n", n/3)} {
		wantText(t, countOf(), fmt.Sprintf("%d\n", len(plainLines(huge))), huge)
		wantText(t, prefixOf(2000), huge[:2000], huge)
		wantText(t, selectOf("zz"), "", huge)
		for _, s := range []api.Step{copyOf(), needOf(), sortOf(), selectOf(""), replaceOf("z", ""), replaceOf(huge[:1], strings.Repeat("h", 100))} {
			wantNone(t, s, ok(huge))
		}
		wantNone(t, concatOf(6), slices.Repeat(oks(huge), 6)...)
	}
	wantText(t, replaceOf("y", ""), "", strings.Repeat("y", n))
}

// Neither the lists that are passed in nor their spare room change, and no answer hangs on an earlier call.
func TestWhatIsPassedInStays(t *testing.T) {
	steps := append(oneArgument(), concatOf(0), concatOf(2), concatOf(6), literalOf("l"), replaceOf("b", "aa"), replaceOf("a", ""), prefixOf(3),
		api.Step{}, concatOf(7), replaceOf("", "a"))
	for _, s := range steps {
		s.Args, s.Lits = roomy(s.Args), roomy(s.Lits)
		vals := roomy(oks("b\na\n\nB", "c", "b\na", "", "\n", "d\n", "e")[:len(s.Args)])
		argsWere, litsWere, valsWere := slices.Clone(spread(s.Args)), slices.Clone(spread(s.Lits)), slices.Clone(spread(vals))
		first, may := step.Do(s, vals...), step.May(s)
		if !slices.Equal(spread(s.Args), argsWere) || !slices.Equal(spread(s.Lits), litsWere) {
			t.Errorf("P7.2: Do or May changed the lists of a step to %q and %q", spread(s.Args), spread(s.Lits))
		}
		if !slices.Equal(spread(vals), valsWere) {
			t.Errorf("P7.2: Do(%+v) changed its args to %+v", s, spread(vals))
		}
		step.Do(sortOf(), ok("z\ny\n"))
		step.Do(concatOf(2), oks("p", "q")...)
		if again := step.Do(s, vals...); again != first || step.May(s) != may {
			t.Errorf("P7.2: Do(%+v) = %+v, and again %+v", s, first, again)
		}
	}
}

// spread returns s with its spare room.
func spread[E any](s []E) []E { return s[:cap(s)] }

// roomy returns a copy of s with spare room.
func roomy[E any](s []E) []E {
	return append(make([]E, 0, 16), s...)
}
