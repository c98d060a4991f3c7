package print_test

import (
	"fmt"
	"math"
	"math/rand/v2"
	"reflect"
	"slices"
	"strconv"
	"strings"
	"testing"

	"shipwright/api"
	"shipwright/parse"
	"shipwright/print"
)

// list returns the words of s.
func list(s string) []string { return strings.Fields(s) }

// wantText fails unless a call answered want.
func wantText(t *testing.T, call, got, want string) {
	t.Helper()
	if got != want {
		t.Errorf("P6.1: %.300s = %.900q, not %.900q", call, got, want)
	}
}

// wantStep fails unless Step(s) is want.
func wantStep(t *testing.T, s api.Step, want string) {
	t.Helper()
	wantText(t, fmt.Sprintf("Step(%+v)", s), print.Step(s), want)
}

// copied returns a copy of rs, with nil for every list without elements, for nil and empty ones are alike.
func copied(rs []api.Rule) []api.Rule {
	rs = append([]api.Rule(nil), rs...)
	for i := range rs {
		rs[i].Steps = append([]api.Step(nil), rs[i].Steps...)
	}
	for _, l := range lists(rs) {
		*l = append([]string(nil), *l...)
	}
	return rs
}

// lists returns all lists of names and strings in rs.
func lists(rs []api.Rule) []*[]string {
	var all []*[]string
	for i := range rs {
		all = append(all, &rs[i].Ins, &rs[i].Outs, &rs[i].After)
		for j := range rs[i].Steps {
			all = append(all, &rs[i].Steps[j].Args, &rs[i].Steps[j].Lits)
		}
	}
	return all
}

// wantRules fails unless got is want; lists that are nil and empty ones are alike.
func wantRules(t *testing.T, call string, got, want []api.Rule) {
	t.Helper()
	if !reflect.DeepEqual(copied(got), copied(want)) {
		t.Errorf("P6.1: %.300s = %.900s, not %.900s", call, fmt.Sprintf("%+v", got), fmt.Sprintf("%+v", want))
	}
}

// opNames are the commands' names by their numbers.
func opNames() []string {
	return list("- copy need sort count concat literal select replace prefix")
}

// noCommands are numbers that are no command's.
func noCommands() []int {
	return []int{0, -1, -9, 10, 11, 256, 257, 1 << 32, 1<<32 + 9, math.MaxInt, math.MinInt}
}

func TestStepOfEachCommand(t *testing.T) {
	b := list("b")
	wantStep(t, api.Step{Out: "a", Op: api.CCopy, Args: b}, `a = copy b;`)
	wantStep(t, api.Step{Out: "a", Op: api.CNeed, Args: b}, `a = need b;`)
	wantStep(t, api.Step{Out: "a", Op: api.CSort, Args: b}, `a = sort b;`)
	wantStep(t, api.Step{Out: "a", Op: api.CCount, Args: b}, `a = count b;`)
	wantStep(t, api.Step{Out: "a", Op: api.CConcat}, `a = concat;`)
	wantStep(t, api.Step{Out: "a", Op: api.CConcat, Args: []string{}, Lits: []string{}}, `a = concat;`)
	wantStep(t, api.Step{Out: "a", Op: api.CConcat, Args: b}, `a = concat b;`)
	wantStep(t, api.Step{Out: "a", Op: api.CConcat, Args: list("z x y x b/c a")}, `a = concat z x y x b/c a;`)
	wantStep(t, api.Step{Out: "a", Op: api.CLiteral, Lits: []string{""}}, `a = literal "";`)
	wantStep(t, api.Step{Out: "a", Op: api.CLiteral, Lits: []string{"1 2"}}, `a = literal "1 2";`)
	wantStep(t, api.Step{Out: "a", Op: api.CSelect, Lits: list("s"), Args: b}, `a = select "s" b;`)
	wantStep(t, api.Step{Out: "a", Op: api.CReplace, Lits: []string{"s", ""}, Args: b}, `a = replace "s" "" b;`)
	wantStep(t, api.Step{Out: "a", Op: api.CReplace, Lits: []string{"t", "s"}, Args: b}, `a = replace "t" "s" b;`)
	wantStep(t, api.Step{Out: "a", Op: api.CPrefix, N: 70, Args: b}, `a = prefix 70 b;`)
	wantStep(t, api.Step{Out: "bin/app", Op: api.CCopy, Args: list("src/main.c")}, `bin/app = copy src/main.c;`)
}

// The number is prefix's alone, and stands there whatever it is.
func TestNumbers(t *testing.T) {
	for _, n := range []int{0, 1, 9, 10, 70, 1999, 2000, 2001, 123456789, -1, -70, math.MaxInt, math.MinInt} {
		wantStep(t, api.Step{Out: "a", Op: api.CPrefix, N: n, Args: list("b")}, "a = prefix "+strconv.Itoa(n)+" b;")
		wantStep(t, api.Step{Out: "a", Op: api.CPrefix, N: n}, "a = prefix "+strconv.Itoa(n)+";")
		for op, name := range opNames() {
			if op != 0 && op != api.CPrefix {
				wantStep(t, api.Step{Out: "a", Op: op, N: n, Args: list("b")}, "a = "+name+" b;")
			}
		}
		for _, op := range noCommands() {
			wantStep(t, api.Step{Out: "a", Op: op, N: n, Args: list("b")}, "a =  b;")
		}
	}
}

// All strings and names are told, also where the command takes others.
func TestStepsThatAreNotValid(t *testing.T) {
	for op, name := range opNames() {
		number := ""
		switch op {
		case 0:
			name = ""
		case api.CPrefix:
			number = " 5"
		}
		s := api.Step{Op: op, N: 5}
		wantStep(t, s, " = "+name+number+";")
		s.Out = "a"
		wantStep(t, s, "a = "+name+number+";")
		s.Args = list("d c")
		wantStep(t, s, "a = "+name+number+" d c;")
		s.Lits = []string{"t", "", "s"}
		wantStep(t, s, "a = "+name+number+` "t" "" "s" d c;`)
		s.Args = nil
		wantStep(t, s, "a = "+name+number+` "t" "" "s";`)
		s.Args = []string{"", "in", "x\n;"}
		wantStep(t, s, "a = "+name+number+" \"t\" \"\" \"s\"  in x\n;;")
	}
}

// An Op that is no command has no name, but the blank ahead of it.
func TestStepOfNoCommand(t *testing.T) {
	for _, op := range noCommands() {
		wantStep(t, api.Step{Out: "a", Op: op}, "a = ;")
		wantStep(t, api.Step{Out: "a", Op: op, Args: list("b c")}, "a =  b c;")
		wantStep(t, api.Step{Out: "a", Op: op, Lits: list("s")}, `a =  "s";`)
		wantStep(t, api.Step{Out: "a", Op: op, Lits: list("s t"), Args: list("b")}, `a =  "s" "t" b;`)
		wantStep(t, api.Step{Op: op}, " = ;")
	}
}

// quoted returns the string for the one byte c.
func quoted(c byte) string {
	switch {
	case c == '\n':
		return `"\n"`
	case c == '\t':
		return `"\t"`
	case c == '"', c == '\\':
		return `"\` + string(rune(c)) + `"`
	case ' ' <= c && c <= '~':
		return `"` + string(rune(c)) + `"`
	}
	return fmt.Sprintf(`"\x%02x"`, c)
}

func TestStringsOfEachByte(t *testing.T) {
	for c := range 256 {
		l, q := string([]byte{byte(c)}), quoted(byte(c))
		wantStep(t, api.Step{Out: "a", Op: api.CLiteral, Lits: []string{l}}, "a = literal "+q+";")
		wantStep(t, api.Step{Out: "a", Op: api.CSelect, Lits: []string{l}, Args: list("b")}, "a = select "+q+" b;")
		wantStep(t, api.Step{Out: "a", Op: api.CReplace, Lits: []string{l, "s"}, Args: list("b")}, "a = replace "+q+` "s" b;`)
		wantStep(t, api.Step{Out: "a", Op: api.CReplace, Lits: []string{"s", l}, Args: list("b")}, `a = replace "s" `+q+" b;")
	}
	wantStep(t, api.Step{Out: "a", Op: api.CLiteral, Lits: []string{"a\n\t\r\"\\\x00\x7f\xff\u00e4 z"}},
		`a = literal "a\n\t\x0d\"\\\x00\x7f\xff\xc3\xa4 z";`)
}

// Names are told as they are, valid or not.
func TestNamesAreNotQuoted(t *testing.T) {
	const odd = "\"\\\n\x00\xff"
	wantStep(t, api.Step{Out: odd, Op: api.CCopy, Args: []string{odd}}, odd+" = copy "+odd+";")
	wantText(t, "Rule", print.Rule(api.Rule{Name: odd, Ins: []string{odd}, Outs: []string{odd}, After: []string{odd}}),
		"rule "+odd+" {\n  in "+odd+";\n  out "+odd+";\n  after "+odd+";\n}\n")
}

// twoRules are those of the chapter's example, in the order in which it tells them.
func twoRules() []api.Rule {
	return []api.Rule{
		{Name: "z", Ins: list("q b"), Outs: list("y x"), After: list("c a"), Steps: []api.Step{
			{Out: "x", Op: api.CCopy, Args: list("q")}, {Out: "y", Op: api.CCopy, Args: list("b")}}},
		{Name: "a", Outs: list("o"), Steps: []api.Step{{Out: "o", Op: api.CLiteral, Lits: list("1")}}},
	}
}

const (
	textOfA = "rule a {\n  out o;\n  o = literal \"1\";\n}\n"
	textOfZ = "rule z {\n  in b, q;\n  out x, y;\n  after a, c;\n  x = copy q;\n  y = copy b;\n}\n"
)

func TestTwoRules(t *testing.T) {
	rs := twoRules()
	wantText(t, "Rule(z)", print.Rule(rs[0]), textOfZ)
	wantText(t, "Rule(a)", print.Rule(rs[1]), textOfA)
	wantText(t, "File(z, a)", print.File(rs), textOfA+textOfZ)
	slices.Reverse(rs)
	wantText(t, "File(a, z)", print.File(rs), textOfA+textOfZ)
	wantText(t, "File(z)", print.File(rs[1:]), textOfZ)
	wantText(t, "File(a, a)", print.File([]api.Rule{rs[0], rs[0]}), textOfA+textOfA)
}

// clauses are lists, and what is told of each between its key and its end.
func clauses() []struct{ names, told string } {
	return []struct{ names, told string }{
		{"", ""},
		{"a", "a"},
		{"a b", "a, b"},
		{"b a", "a, b"},
		{"b c a", "a, b, c"},
		{"b a b", "a, b, b"},
		{"a a", "a, a"},
		{"b/a b a/b B 10 9 - . _ a", "-, ., 10, 9, B, _, a, a/b, b, b/a"},
	}
}

// line returns the line of a clause, if there is one.
func line(key, told string) string {
	if told == "" {
		return ""
	}
	return "  " + key + " " + told + ";\n"
}

// Each clause stands or lacks, with steps or without: all of these together.
func TestClauses(t *testing.T) {
	step := api.Step{Out: "y", Op: api.CConcat, Args: list("z a")}
	for _, in := range clauses() {
		for _, out := range clauses() {
			for _, after := range clauses() {
				for n := range 3 {
					r := api.Rule{Name: "r", Ins: list(in.names), Outs: list(out.names), After: list(after.names), Steps: slices.Repeat([]api.Step{step}, n)}
					want := "rule r {\n" + line("in", in.told) + line("out", out.told) + line("after", after.told) + strings.Repeat("  y = concat z a;\n", n) + "}\n"
					wantText(t, fmt.Sprintf("Rule(%+v)", r), print.Rule(r), want)
					wantText(t, fmt.Sprintf("File(%+v)", r), print.File([]api.Rule{r}), want)
					sorted := r
					sorted.Ins, sorted.Outs, sorted.After = told(in.told), told(out.told), told(after.told)
					wantRules(t, fmt.Sprintf("Sorted(%+v)", r), print.Sorted([]api.Rule{r}), []api.Rule{sorted})
				}
			}
		}
	}
}

// told returns the names that are told in s.
func told(s string) []string {
	return list(strings.ReplaceAll(s, ",", ""))
}

func TestNothing(t *testing.T) {
	for _, rs := range [][]api.Rule{nil, {}} {
		wantText(t, "File of none", print.File(rs), "")
		if got := print.Sorted(rs); len(got) != 0 {
			t.Errorf("P6.1: Sorted of no rules = %+v", got)
		}
	}
	empty := api.Rule{Ins: []string{}, Outs: []string{}, After: []string{}, Steps: []api.Step{}}
	for _, r := range []api.Rule{{}, empty} {
		wantText(t, "Rule of nothing", print.Rule(r), "rule  {\n}\n")
		wantText(t, "File of nothing", print.File([]api.Rule{r}), "rule  {\n}\n")
		wantRules(t, "Sorted of nothing", print.Sorted([]api.Rule{r}), []api.Rule{{}})
	}
	wantText(t, "Rule of no lists", print.Rule(api.Rule{Name: "r"}), "rule r {\n}\n")
	wantText(t, "Rule of an empty name", print.Rule(api.Rule{Name: "r", Ins: []string{""}}), "rule r {\n  in ;\n}\n")
	wantText(t, "Rule of empty names", print.Rule(api.Rule{Name: "r", After: []string{"b", "", ""}}), "rule r {\n  after , , b;\n}\n")
}

// Steps stand as they are: neither they nor their names and strings are sorted.
func TestStepsKeepTheirOrder(t *testing.T) {
	r := api.Rule{Name: "r", Outs: list("b a"), Steps: []api.Step{
		{Out: "z", Op: api.CConcat, Args: list("d b c b")},
		{Out: "b", Op: api.CReplace, Lits: list("y x"), Args: list("z")},
		{Out: "a", Op: api.CPrefix, N: 3, Args: list("z")},
		{Out: "b", Op: api.CSort, Args: list("a")},
		{Out: "b", Op: api.CSort, Args: list("a")},
	}}
	wantText(t, "Rule", print.Rule(r),
		"rule r {\n  out a, b;\n  z = concat d b c b;\n  b = replace \"y\" \"x\" z;\n  a = prefix 3 z;\n  b = sort a;\n  b = sort a;\n}\n")
	sorted := r
	sorted.Outs = list("a b")
	wantRules(t, "Sorted", print.Sorted([]api.Rule{r}), []api.Rule{sorted})
	wantRules(t, "Sorted", print.Sorted([]api.Rule{sorted}), []api.Rule{sorted})
}

// named returns rules of the names, each with its place as its only Out.
func named(names ...string) []api.Rule {
	var rs []api.Rule
	for i, n := range names {
		rs = append(rs, api.Rule{Name: n, Outs: []string{strconv.Itoa(i)}})
	}
	return rs
}

// Names are ordered byte by byte, and rules of one name stay in their order.
func TestOrderOfRules(t *testing.T) {
	for _, names := range [][]string{
		{"a"}, {"a", "b"}, {"b", "a"}, {"b", "a", "c"}, {"c", "b", "a"},
		{"b", "a", "b", "a", "b"}, {"a", "a", "a"},
		{"b", "a/b", "a", "B", "aa", "10", "9", "-", "_", ".", "", "a-b", "a.b", "Z", "z"},
		{"\xff", "\u00e4", "z", "\x00", "", "\xc3", "\u20ac"},
		list(strings.Repeat("d b c a e ", 30)),
	} {
		rs := named(names...)
		want := copied(rs)
		slices.SortStableFunc(want, func(a, b api.Rule) int {
			switch {
			case a.Name < b.Name:
				return -1
			case a.Name > b.Name:
				return 1
			}
			return 0
		})
		wantRules(t, fmt.Sprintf("Sorted(%q)", names), print.Sorted(rs), want)
		text := ""
		for _, r := range want {
			text += "rule " + r.Name + " {\n  out " + r.Outs[0] + ";\n}\n"
		}
		wantText(t, fmt.Sprintf("File(%q)", names), print.File(rs), text)
	}
	wantRules(t, "Sorted(b a b a)", print.Sorted(named("b", "a", "b", "a")), []api.Rule{
		{Name: "a", Outs: list("1")}, {Name: "a", Outs: list("3")}, {Name: "b", Outs: list("0")}, {Name: "b", Outs: list("2")}})
	wantRules(t, "Sorted", print.Sorted(named("a", "B", "a/b", "aa", "a-b")), []api.Rule{
		{Name: "B", Outs: list("1")}, {Name: "a", Outs: list("0")}, {Name: "a-b", Outs: list("4")}, {Name: "a/b", Outs: list("2")}, {Name: "aa", Outs: list("3")}})
}

// wide returns rules with every list of several elements that are not in order, and room behind every one.
func wide() []api.Rule {
	rs := make([]api.Rule, 0, 8)
	for _, name := range list("c a b a") {
		r := api.Rule{Name: name, Ins: roomy("k i j"), Outs: roomy("n l m"), After: roomy("q o p"), Steps: make([]api.Step, 0, 8)}
		for op := range 3 {
			r.Steps = append(r.Steps, api.Step{Out: "x", Op: op, N: op, Args: roomy("f d e"), Lits: roomy("u s t")})
		}
		r.Steps = append(r.Steps, api.Step{Out: "w"}, api.Step{Out: "v", Args: make([]string, 0, 4), Lits: make([]string, 0, 4)})
		rs = append(rs, r)
	}
	return append(rs, api.Rule{Name: "b", Ins: make([]string, 0, 4), Outs: make([]string, 0, 4), After: make([]string, 0, 4), Steps: make([]api.Step, 0, 4)})
}

// roomy returns the words of s, and room for some more.
func roomy(s string) []string {
	return append(make([]string, 0, 8), list(s)...)
}

// withRoom returns the rules and lists in rs, and those that stand in the room behind them.
func withRoom(rs []api.Rule) []api.Rule {
	rs = append([]api.Rule{}, rs[:cap(rs)]...)
	for i, r := range rs {
		rs[i].Steps = append([]api.Step{}, r.Steps[:cap(r.Steps)]...)
	}
	for _, l := range lists(rs) {
		*l = append([]string{}, (*l)[:cap(*l)]...)
	}
	return rs
}

// What is handed in stays as it was, the room behind the lists among that.
func TestArgumentsStay(t *testing.T) {
	rs, others := wide(), wide()
	others[len(others)-1].Name = "other"
	before, othersBefore := withRoom(rs), withRoom(others)
	for call, do := range map[string]func(){
		"Step":   func() { print.Step(rs[0].Steps[1]) },
		"Rule":   func() { print.Rule(rs[0]) },
		"File":   func() { print.File(rs) },
		"Sorted": func() { print.Sorted(rs) },
		"Eq":     func() { print.Eq(rs, others) },
	} {
		do()
		if !reflect.DeepEqual(withRoom(rs), before) || !reflect.DeepEqual(withRoom(others), othersBefore) {
			t.Errorf("P0.3: %s changes what is handed in", call)
		}
	}
}

// spoil overwrites everything that can be reached through rs, the room behind each list among that.
func spoil(rs []api.Rule) {
	rs = rs[:cap(rs)]
	for i := range rs {
		steps := rs[i].Steps[:cap(rs[i].Steps)]
		for j := range steps {
			spoilList(steps[j].Args)
			spoilList(steps[j].Lits)
			steps[j] = api.Step{Out: "spoilt"}
		}
		spoilList(rs[i].Ins)
		spoilList(rs[i].Outs)
		spoilList(rs[i].After)
		rs[i] = api.Rule{Name: "spoilt"}
	}
}

func spoilList(l []string) {
	l = l[:cap(l)]
	for i := range l {
		l[i] = "spoilt"
	}
}

// What Sorted answers is the caller's own: it shares nothing with what was handed in or with another answer.
func TestSortedIsNew(t *testing.T) {
	rs := wide()
	before := withRoom(rs)
	first, second := print.Sorted(rs), print.Sorted(rs)
	want := copied(first)
	spoil(first)
	if !reflect.DeepEqual(withRoom(rs), before) {
		t.Errorf("P0.3: Sorted shares memory with what is handed in")
	}
	wantRules(t, "another answer of Sorted", second, want)
	spoil(rs)
	wantRules(t, "Sorted after what was handed in is changed", second, want)

	again := print.Sorted(second)
	spoil(second)
	wantRules(t, "Sorted of sorted rules", again, want)
}

// No two lists of one answer share memory: what is done to one is seen in no other.
func TestListsOfSortedAreApart(t *testing.T) {
	shared := roomy("c a b")
	steps := []api.Step{{Out: "x", Args: shared[:2], Lits: shared}, {Out: "y", Args: shared, Lits: shared[1:]}}
	rs := []api.Rule{
		{Name: "b", Ins: shared, Outs: shared, After: shared[1:], Steps: steps},
		{Name: "a", Ins: shared[:1], Outs: shared, After: shared, Steps: steps[:1]},
	}
	want := []api.Rule{
		{Name: "a", Ins: list("c"), Outs: list("a b c"), After: list("a b c"), Steps: []api.Step{
			{Out: "x", Args: list("c a"), Lits: list("c a b")}}},
		{Name: "b", Ins: list("a b c"), Outs: list("a b c"), After: list("a b"), Steps: []api.Step{
			{Out: "x", Args: list("c a"), Lits: list("c a b")}, {Out: "y", Args: list("c a b"), Lits: list("a b")}}},
	}
	wantRules(t, "Sorted", print.Sorted(rs), want)
	for n := range lists(want) {
		got := print.Sorted(rs)
		l := lists(got)[n]
		spoilList(*l)
		*l = *lists(want)[n]
		wantRules(t, fmt.Sprintf("Sorted, with list %d changed", n), got, want)
	}
	for n := range want {
		got := print.Sorted(rs)
		all := got[n].Steps[:cap(got[n].Steps)]
		for i := range all {
			all[i] = api.Step{Out: "spoilt"}
		}
		got[n].Steps = want[n].Steps
		wantRules(t, fmt.Sprintf("Sorted, with the steps of %d changed", n), got, want)
	}
}

// wantEq fails unless Eq(a, b) and Eq(b, a) are want.
func wantEq(t *testing.T, what string, a, b []api.Rule, want bool) {
	t.Helper()
	if print.Eq(a, b) != want || print.Eq(b, a) != want {
		t.Errorf("P6.1: Eq of %s = %v, %v, not %v", what, print.Eq(a, b), print.Eq(b, a), want)
	}
}

// one is a rule in which each list has two elements.
func one() api.Rule {
	return api.Rule{Name: "r", Ins: list("a b"), Outs: list("c d"), After: list("e f"), Steps: []api.Step{
		{Out: "x", Op: api.CConcat, Args: list("g h"), Lits: list("i j"), N: 1},
		{Out: "y", Op: api.CReplace, Args: list("k l"), Lits: list("m n"), N: 2},
	}}
}

// turns are changes of one, each of one thing or of one order.
func turns() map[string]func(r *api.Rule) {
	all := map[string]func(r *api.Rule){
		"the name":           func(r *api.Rule) { r.Name = "R" },
		"no name":            func(r *api.Rule) { r.Name = "" },
		"no steps":           func(r *api.Rule) { r.Steps = nil },
		"a step less":        func(r *api.Rule) { r.Steps = r.Steps[:1] },
		"the first step":     func(r *api.Rule) { r.Steps = r.Steps[1:] },
		"a step more":        func(r *api.Rule) { r.Steps = append(r.Steps, api.Step{}) },
		"a step twice":       func(r *api.Rule) { r.Steps = append(r.Steps, r.Steps[1]) },
		"the steps in order": func(r *api.Rule) { slices.Reverse(r.Steps) },
	}
	for i := range one().Steps {
		n := " of step " + strconv.Itoa(i)
		all["the Out"+n] = func(r *api.Rule) { r.Steps[i].Out = "z" }
		all["the Op"+n] = func(r *api.Rule) { r.Steps[i].Op = api.CSort }
		all["an Op that is no command"+n] = func(r *api.Rule) { r.Steps[i].Op = -1 }
		all["the N"+n] = func(r *api.Rule) { r.Steps[i].N = 3 }
		all["no N"+n] = func(r *api.Rule) { r.Steps[i].N = 0 }
	}
	for i := range lists([]api.Rule{one()}) {
		n := " list " + strconv.Itoa(i)
		turn := func(change func(l []string) []string) func(r *api.Rule) {
			return func(r *api.Rule) {
				rs := []api.Rule{*r}
				l := lists(rs)[i]
				*l = change(*l)
				*r = rs[0]
			}
		}
		all["no"+n] = turn(func(l []string) []string { return nil })
		all["a shorter"+n] = turn(func(l []string) []string { return l[:1] })
		all["the end of"+n] = turn(func(l []string) []string { return l[1:] })
		all["a longer"+n] = turn(func(l []string) []string { return append(l, "") })
		all["the first of"+n] = turn(func(l []string) []string { l[0] = "z"; return l })
		all["the last of"+n] = turn(func(l []string) []string { l[1] = "z"; return l })
		all["the order of"+n] = turn(func(l []string) []string { slices.Reverse(l); return l })
		all["the joined"+n] = turn(func(l []string) []string { return []string{l[0] + ", " + l[1]} })
	}
	return all
}

func TestEqOfOneThing(t *testing.T) {
	wantEq(t, "one rule", []api.Rule{one()}, []api.Rule{one()}, true)
	for what, turn := range turns() {
		two := one()
		turn(&two)
		wantEq(t, what, []api.Rule{one()}, []api.Rule{two}, false)
		wantEq(t, what+" in the first rule", []api.Rule{one(), one()}, []api.Rule{two, one()}, false)
		wantEq(t, what+" in the last rule", []api.Rule{one(), one()}, []api.Rule{one(), two}, false)
		wantEq(t, what+" in both", []api.Rule{one(), two}, []api.Rule{one(), two}, true)
		wantEq(t, what+" in turn", []api.Rule{one(), two}, []api.Rule{two, one()}, false)
	}
}

func TestEqOfListsOfRules(t *testing.T) {
	a, b := one(), one()
	b.Name = "s"
	wantEq(t, "two rules", []api.Rule{a, b}, []api.Rule{a, b}, true)
	wantEq(t, "the order of rules", []api.Rule{a, b}, []api.Rule{b, a}, false)
	wantEq(t, "a rule less", []api.Rule{a, b}, []api.Rule{a}, false)
	wantEq(t, "the last rule alone", []api.Rule{a, b}, []api.Rule{b}, false)
	wantEq(t, "a rule twice", []api.Rule{a}, []api.Rule{a, a}, false)
	wantEq(t, "none and one", nil, []api.Rule{a}, false)
	wantEq(t, "none and one that is empty", nil, []api.Rule{{}}, false)
	wantEq(t, "what is sorted and what is not", twoRules(), print.Sorted(twoRules()), false)
	rs := wide()
	wantEq(t, "rules and themselves", rs, rs, true)
}

// Lists without elements are alike, nil or not.
func TestEqOfNil(t *testing.T) {
	wantEq(t, "nil and nil", nil, nil, true)
	wantEq(t, "nil and empty", nil, []api.Rule{}, true)
	wantEq(t, "empty and empty", []api.Rule{}, make([]api.Rule, 0, 3), true)
	for i := range lists([]api.Rule{one()}) {
		a, b := []api.Rule{one()}, []api.Rule{one()}
		*lists(a)[i], *lists(b)[i] = nil, []string{}
		wantEq(t, "a nil and an empty list", a, b, true)
		*lists(b)[i] = make([]string, 0, 3)
		wantEq(t, "a nil list and one with room", a, b, true)
		*lists(b)[i] = []string{""}
		wantEq(t, "a nil list and an empty name", a, b, false)
	}
	wantEq(t, "nil and empty steps", []api.Rule{{Name: "r"}}, []api.Rule{{Name: "r", Steps: []api.Step{}}}, true)
	wantEq(t, "nil steps and an empty one", []api.Rule{{Name: "r"}}, []api.Rule{{Name: "r", Steps: []api.Step{{}}}}, false)
	wantEq(t, "nil and empty lists", []api.Rule{{Steps: []api.Step{{}}}}, []api.Rule{{Ins: []string{}, Outs: []string{}, After: []string{},
		Steps: []api.Step{{Args: []string{}, Lits: []string{}}}}}, true)
}

// wantBack fails unless the text of rs, read, is Sorted of them, and printed is the same text.
func wantBack(t *testing.T, rs []api.Rule) {
	t.Helper()
	text := print.File(rs)
	got, err := parse.File(text)
	if err != (api.Err{}) {
		t.Fatalf("W6: parse.File(%.900q): %+v", text, err)
	}
	sorted := print.Sorted(rs)
	if !reflect.DeepEqual(copied(got), copied(sorted)) || !print.Eq(got, sorted) {
		t.Errorf("W6: parse.File(%.900q) = %.900s", text, fmt.Sprintf("%+v", got))
	}
	if again := print.File(got); again != text {
		t.Errorf("W6: %.900q is printed as %.900q", text, again)
	}
	if again := print.File(sorted); again != text {
		t.Errorf("W6: sorted, %.900q is printed as %.900q", text, again)
	}
}

// steps are valid ones of every command, on the files a and b.
func steps() []api.Step {
	return []api.Step{
		{Out: "s1", Op: api.CCopy, Args: list("b")},
		{Out: "s2", Op: api.CNeed, Args: list("s1")},
		{Out: "s3", Op: api.CSort, Args: list("s2")},
		{Out: "s4", Op: api.CCount, Args: list("a")},
		{Out: "s5", Op: api.CConcat},
		{Out: "s6", Op: api.CConcat, Args: list("s5 s4 a b a s3")},
		{Out: "s7", Op: api.CLiteral, Lits: []string{""}},
		{Out: "s8", Op: api.CSelect, Lits: []string{"x\ty\"z"}, Args: list("s6")},
		{Out: "s9", Op: api.CReplace, Lits: []string{"\n", "\\n"}, Args: list("s8")},
		{Out: "s10", Op: api.CReplace, Lits: []string{"a", ""}, Args: list("s8")},
		{Out: "s11", Op: api.CPrefix, N: 0, Args: list("s8")},
		{Out: "s12", Op: api.CPrefix, N: 2000, Args: list("s8")},
	}
}

func TestReadBack(t *testing.T) {
	wantBack(t, nil)
	wantBack(t, []api.Rule{{Name: "r", Outs: list("s1"), Steps: []api.Step{{Out: "s1", Op: api.CConcat}}}})
	wantBack(t, twoRules())
	wantBack(t, []api.Rule{
		{Name: "r", Ins: list("b a"), Outs: list("s9 s12 s10 s11"), After: list("t 9 10"), Steps: steps()},
		{Name: "10", Outs: list("x/y x"), Steps: []api.Step{{Out: "x", Op: api.CLiteral, Lits: list("x")}, {Out: "x/y", Op: api.CCopy, Args: list("x")}}},
		{Name: "t", Ins: list("x x/y"), Outs: list("copy"), After: list("9"), Steps: []api.Step{{Out: "copy", Op: api.CConcat, Args: list("x x/y x")}}},
		{Name: "9", Outs: list("concat"), Steps: []api.Step{{Out: "need", Op: api.CLiteral, Lits: list("rule")}, {Out: "concat", Op: api.CConcat, Args: list("need need")}}},
	})
	for c := range 256 {
		b := string([]byte{byte(c)})
		for _, l := range []string{b, b + b, "0" + b + "0", b + `x41`, b + `"`, `\` + b} {
			wantBack(t, []api.Rule{{Name: "r", Outs: list("a"), Steps: []api.Step{
				{Out: "b", Op: api.CLiteral, Lits: []string{l}}, {Out: "a", Op: api.CReplace, Lits: []string{l, l}, Args: list("b")}}}})
		}
	}
	for n := range api.MaxBytes + 1 {
		wantBack(t, []api.Rule{{Name: "r", Ins: list("b"), Outs: list("a"), Steps: []api.Step{{Out: "a", Op: api.CPrefix, N: n, Args: list("b")}}}})
	}
}

// The longest text that may be read is.
func TestReadBackOfLongText(t *testing.T) {
	var rs []api.Rule
	for i := range api.MaxRules {
		name := strings.Repeat("n", api.MaxName-2) + strconv.Itoa(99-i)
		rs = append(rs, api.Rule{Name: name, Outs: []string{name}, Steps: []api.Step{{Out: name, Op: api.CLiteral, Lits: []string{""}}}})
	}
	room := api.MaxText - len(print.File(rs))
	for i := range rs {
		n := min(room/4, api.MaxLit)
		rs[i].Steps[0].Lits[0] = strings.Repeat("\xff", n)
		room -= 4 * n
	}
	rs[0].Steps[0].Lits[0] += strings.Repeat(".", room)
	if text := print.File(rs); len(text) != api.MaxText {
		t.Fatalf("the text has %d bytes", len(text))
	}
	wantBack(t, rs)
}

// anyRules returns rules that may stand in a rule file, none of them with equal names.
func anyRules(rnd *rand.Rand) []api.Rule {
	var rs []api.Rule
	for _, i := range rnd.Perm(8)[:rnd.IntN(6)] {
		r := api.Rule{Name: "r" + strconv.Itoa(i), Ins: someNames(rnd, 0, 8), Outs: someNames(rnd, 1, 4), After: someNames(rnd, 0, 8)}
		for range rnd.IntN(6) {
			r.Steps = append(r.Steps, anyStep(rnd))
		}
		rs = append(rs, r)
	}
	return rs
}

// someNames returns from to most different names in any order.
func someNames(rnd *rand.Rand, from, most int) []string {
	names := list("a b c a/b a.b a-b A Z 10 9 copy - _ ... in/out r1 r2")
	rnd.Shuffle(len(names), func(i, j int) { names[i], names[j] = names[j], names[i] })
	return names[:from+rnd.IntN(most-from+1)]
}

// anyStep returns a step of any command.
func anyStep(rnd *rand.Rand) api.Step {
	s := steps()[rnd.IntN(len(steps()))]
	s.Out = someNames(rnd, 1, 1)[0]
	for i := range s.Args {
		s.Args[i] = someNames(rnd, 1, 1)[0]
	}
	for i := range s.Lits {
		b := make([]byte, rnd.IntN(5))
		for j := range b {
			b[j] = byte(rnd.IntN(256))
		}
		s.Lits[i] = string(b)
	}
	return s
}

// layout writes a rule file of rs with any blanks and remarks between its words.
type layout struct {
	rnd  *rand.Rand
	text strings.Builder
}

// gap writes what separates words, and nothing at times if it need not.
func (l *layout) gap(need bool) {
	gaps := []string{" ", "\n", "\t\r\n ", "#\n", " # rule x { \"\n\t", "# #;\n# out y;\n"}
	if n := l.rnd.IntN(len(gaps) + 2); n < len(gaps) {
		l.text.WriteString(gaps[n])
	} else if need {
		l.text.WriteString(" ")
	}
}

// words writes words, and before each one a gap.
func (l *layout) words(need bool, words ...string) {
	for _, w := range words {
		l.gap(need)
		l.text.WriteString(w)
	}
}

// clause writes a clause, with its names in any order.
func (l *layout) clause(key string, names []string) {
	if len(names) == 0 {
		return
	}
	l.words(true, key)
	for i, j := range l.rnd.Perm(len(names)) {
		if i > 0 {
			l.words(false, ",")
		}
		l.words(i == 0, names[j])
	}
	l.words(false, ";")
}

// str returns a string that stands for s, each byte in one of its ways.
func (l *layout) str(s string) string {
	var b strings.Builder
	for i := range len(s) {
		if q := quoted(s[i]); l.rnd.IntN(2) == 0 {
			b.WriteString(q[1 : len(q)-1])
		} else {
			fmt.Fprintf(&b, `\x%02x`, s[i])
		}
	}
	return `"` + b.String() + `"`
}

// step writes a step.
func (l *layout) step(s api.Step) {
	l.words(false, s.Out, "=", opNames()[s.Op])
	if s.Op == api.CPrefix {
		l.words(true, strconv.Itoa(s.N))
	}
	for _, lit := range s.Lits {
		l.words(false, l.str(lit))
	}
	l.words(true, s.Args...)
	l.words(false, ";")
}

// file writes the rules in any order.
func (l *layout) file(rs []api.Rule) {
	for _, i := range l.rnd.Perm(len(rs)) {
		l.words(false, "rule")
		l.words(true, rs[i].Name)
		l.words(false, "{")
		l.clause("in", rs[i].Ins)
		l.clause("out", rs[i].Outs)
		l.clause("after", rs[i].After)
		for _, s := range rs[i].Steps {
			l.step(s)
		}
		l.words(false, "}")
	}
	l.gap(false)
}

// Rules are read as they were printed, whatever their layout and the order of rules and lists in the file.
func TestAnyLayout(t *testing.T) {
	for seed := range uint64(400) {
		rnd := rand.New(rand.NewPCG(6, seed))
		rs := anyRules(rnd)
		wantBack(t, rs)
		want := print.File(rs)
		for range 4 {
			l := layout{rnd: rnd}
			l.file(rs)
			got, err := parse.File(l.text.String())
			if err != (api.Err{}) {
				t.Fatalf("W6: parse.File(%.900q): %+v", l.text.String(), err)
			}
			if text := print.File(got); text != want {
				t.Fatalf("W6: %.900q is printed as %.900q, not %.900q", l.text.String(), text, want)
			}
			if !print.Eq(print.Sorted(got), print.Sorted(rs)) {
				t.Fatalf("W6: %.900q is read as %.900s", l.text.String(), fmt.Sprintf("%+v", got))
			}
		}
	}
	a := "rule r { in x, y; out o; o = concat x y; } rule s { out p; p = literal \"q\"; }"
	b := "rule s{out p;p=literal\"\\x71\";}# so\nrule r{in y,x;out o;o=concat x y;}#"
	first, _ := parse.File(a)
	second, _ := parse.File(b)
	wantText(t, "File", print.File(first), "rule r {\n  in x, y;\n  out o;\n  o = concat x y;\n}\nrule s {\n  out p;\n  p = literal \"q\";\n}\n")
	wantText(t, "File", print.File(second), print.File(first))
}

// Rule files that differ in more than their layout and these orders are printed as other texts.
func TestOtherRulesAreOtherTexts(t *testing.T) {
	base := "rule r { in a, b; out c, d; after s; c = replace \"x\" \"y\" a; d = prefix 3 b; } rule s { out e; e = concat; }"
	texts := map[string]string{}
	for _, edit := range [][2]string{
		{"", ""}, {"rule r", "rule q"}, {"in a, b;", ""}, {"in a, b", "in a"}, {"in a, b", "in a, c"}, {"out c, d", "out c"},
		{"after s;", ""}, {"after s", "after s, t"}, {`"x" "y"`, `"y" "x"`}, {`"x"`, `""`}, {`"y" a`, `"y" b`},
		{"prefix 3", "prefix 4"}, {"prefix 3", "copy"}, {"concat;", "concat e;"}, {"concat;", "concat e e;"}, {"e = concat;", ""},
		{`c = replace "x" "y" a; d = prefix 3 b;`, `d = prefix 3 b; c = replace "x" "y" a;`}, {"rule s { out e; e = concat; }", ""},
	} {
		source := strings.Replace(base, edit[0], edit[1], 1)
		rs, err := parse.File(source)
		if err != (api.Err{}) {
			t.Fatalf("parse.File(%q): %+v", source, err)
		}
		text := print.File(rs)
		if other, ok := texts[text]; ok {
			t.Errorf("P6.1: %q and %q are both printed as %q", other, source, text)
		}
		texts[text] = source
		wantBack(t, rs)
	}
}

// Neither long lists nor long texts nor any bytes are too much.
func TestHugeArguments(t *testing.T) {
	const n = 1 << 17
	var names []string
	for i := range n {
		names = append(names, strconv.Itoa(i*7919%n))
	}
	sorted := slices.Sorted(slices.Values(names))
	long := strings.Repeat("\xff\n", n)
	wide := api.Rule{Name: long, Ins: names, Outs: names, After: names, Steps: []api.Step{
		{Out: long, Op: api.CConcat, Args: names}, {Out: "x", Op: api.CLiteral, Lits: []string{long}}}}
	told := strings.Join(sorted, ", ")
	text := "rule " + long + " {\n  in " + told + ";\n  out " + told + ";\n  after " + told + ";\n  " + long + " = concat " + strings.Join(names, " ") +
		";\n  x = literal \"" + strings.Repeat(`\xff\n`, n) + "\";\n}\n"
	if got := print.Rule(wide); got != text {
		t.Errorf("P6.1: Rule of %d names has %d bytes, not %d", n, len(got), len(text))
	}
	want := wide
	want.Ins, want.Outs, want.After = sorted, sorted, sorted
	if got := print.Sorted([]api.Rule{wide}); !reflect.DeepEqual(got, []api.Rule{want}) || !print.Eq(got, []api.Rule{want}) || print.Eq(got, []api.Rule{wide}) {
		t.Errorf("P6.1: Sorted of %d names", n)
	}
	if got := print.File(named(names...)); len(got) != len(print.File(named(sorted...))) || !strings.HasPrefix(got, "rule 0 {\n  out 0;\n}\nrule 1 {\n") {
		t.Errorf("P6.1: File of %d rules has %d bytes: %.100q", n, len(got), got)
	}
	many := api.Rule{Name: "r", Steps: slices.Repeat(steps(), n/8)}
	if got := print.Rule(many); strings.Count(got, "\n") != len(many.Steps)+2 {
		t.Errorf("P6.1: Rule of %d steps has %d lines", len(many.Steps), strings.Count(got, "\n"))
	}
}
