package parse_test

import (
	"cmp"
	"fmt"
	"maps"
	"reflect"
	"slices"
	"strconv"
	"strings"
	"testing"

	"shipwright/api"
	"shipwright/parse"
)

// bare returns rs with nil for every list without elements, for the two are equivalent.
func bare(rs []api.Rule) []api.Rule {
	var out []api.Rule
	for _, r := range rs {
		r.Ins, r.Outs, r.After = bareList(r.Ins), bareList(r.Outs), bareList(r.After)
		var steps []api.Step
		for _, s := range r.Steps {
			s.Args, s.Lits = bareList(s.Args), bareList(s.Lits)
			steps = append(steps, s)
		}
		r.Steps = steps
		out = append(out, r)
	}
	return out
}

func bareList(list []string) []string {
	if len(list) == 0 {
		return nil
	}
	return list
}

// wantRules fails unless File(s) is want and no error.
func wantRules(t *testing.T, s string, want ...api.Rule) {
	t.Helper()
	got, err := parse.File(s)
	if !reflect.DeepEqual(bare(got), bare(want)) || err != (api.Err{}) {
		t.Errorf("P5.1: File(%.200q) = %.400s, %+v, not %.400s", s, fmt.Sprintf("%+v", got), err, fmt.Sprintf("%+v", want))
	}
}

// wantFault fails unless File(s) is nil and ErrForm at at.
func wantFault(t *testing.T, s string, at int) {
	t.Helper()
	if got, err := parse.File(s); got != nil || err != (api.Err{Code: api.ErrForm, At: at}) {
		t.Errorf("P5.1: File(%.200q) = %d rules, %+v, not ErrForm at %d", s, len(got), err, at)
	}
}

// wantMost fails unless File(s) is nil and ErrMost without a place.
func wantMost(t *testing.T, s string) {
	t.Helper()
	if got, err := parse.File(s); got != nil || err != (api.Err{Code: api.ErrMost, At: -1}) {
		t.Errorf("P5.1: File of %d bytes = %d rules, %+v, not ErrMost at -1", len(s), len(got), err)
	}
}

// list returns the words of s.
func list(s string) []string { return strings.Fields(s) }

// withSteps is the rule r that makes a by the steps.
func withSteps(steps ...api.Step) api.Rule {
	return api.Rule{Name: "r", Outs: []string{"a"}, Steps: steps}
}

func TestNoRules(t *testing.T) {
	for _, s := range []string{"", " ", "\n", " \t\r\n ", "#", "# none", "# a\n# rule r { out a; }\n", "#!\n \n#\"\n"} {
		wantRules(t, s)
	}
}

// Each clause stands or lacks, each list is of one name or of several: all of these together.
func TestClauses(t *testing.T) {
	lists := []string{"", "a", "b c", "d e f", "g g", "z/1 y/2 x/3 w/4 v/5 u/6 t/7 s/8 r/9 q/10 p/11 o/12"}
	step := api.Step{Out: "x", Op: api.CCopy, Args: []string{"y"}}
	for _, ins := range lists {
		for _, outs := range lists[1:] {
			for _, after := range lists {
				for n := range 3 {
					r := api.Rule{Name: "r", Ins: list(ins), Outs: list(outs), After: list(after), Steps: slices.Repeat([]api.Step{step}, n)}
					wantRules(t, written(r, " "), r)
				}
			}
		}
	}
}

// written returns the words of r in the order of the grammar, with gap between them.
func written(r api.Rule, gap string) string {
	words := []string{"rule", r.Name, "{"}
	words = append(words, clauseWords("in", r.Ins)...)
	words = append(words, clauseWords("out", r.Outs)...)
	words = append(words, clauseWords("after", r.After)...)
	for _, s := range r.Steps {
		words = append(words, stepWords(s)...)
	}
	return strings.Join(append(words, "}"), gap)
}

func clauseWords(key string, names []string) []string {
	if len(names) == 0 {
		return nil
	}
	words := []string{key}
	for i, n := range names {
		if i > 0 {
			words = append(words, ",")
		}
		words = append(words, n)
	}
	return append(words, ";")
}

func stepWords(s api.Step) []string {
	names := list("- copy need sort count concat literal select replace prefix")
	words := []string{s.Out, "=", names[s.Op]}
	if s.Op == api.CPrefix {
		words = append(words, strconv.Itoa(s.N))
	}
	for _, l := range s.Lits {
		words = append(words, `"`+l+`"`)
	}
	return append(append(words, s.Args...), ";")
}

// manySteps returns steps of every command, some of them in several forms.
func manySteps() []api.Step {
	one := []string{"y"}
	return []api.Step{
		{Out: "x", Op: 1, Args: one},
		{Out: "x", Op: 2, Args: one},
		{Out: "x", Op: 3, Args: one},
		{Out: "x", Op: 4, Args: one},
		{Out: "x", Op: 5},
		{Out: "x", Op: 5, Args: one},
		{Out: "x", Op: 5, Args: list("y z")},
		{Out: "x", Op: 5, Args: list("x y x x copy concat 7 a/b")},
		{Out: "x", Op: 6, Lits: []string{""}},
		{Out: "x", Op: 6, Lits: []string{"one"}},
		{Out: "x", Op: 7, Lits: []string{"one"}, Args: one},
		{Out: "x", Op: 8, Lits: []string{"one", "two"}, Args: one},
		{Out: "x", Op: 8, Lits: []string{"", ""}, Args: one},
		{Out: "x", Op: 8, Lits: []string{"same", "same"}, Args: one},
		{Out: "x", Op: 9, N: 0, Args: one},
		{Out: "x", Op: 9, N: 2000, Args: one},
	}
}

func TestStepOfEachCommand(t *testing.T) {
	for _, s := range manySteps() {
		wantRules(t, written(withSteps(s), " "), withSteps(s))
	}
	wantRules(t, `rule r { out a; x = copy y; }`, withSteps(api.Step{Out: "x", Op: api.CCopy, Args: []string{"y"}}))
	wantRules(t, `rule r { out a; x = need y; }`, withSteps(api.Step{Out: "x", Op: api.CNeed, Args: []string{"y"}}))
	wantRules(t, `rule r { out a; x = sort y; }`, withSteps(api.Step{Out: "x", Op: api.CSort, Args: []string{"y"}}))
	wantRules(t, `rule r { out a; x = count y; }`, withSteps(api.Step{Out: "x", Op: api.CCount, Args: []string{"y"}}))
	wantRules(t, `rule r { out a; x = concat; }`, withSteps(api.Step{Out: "x", Op: api.CConcat}))
	wantRules(t, `rule r { out a; x = concat y z; }`, withSteps(api.Step{Out: "x", Op: api.CConcat, Args: []string{"y", "z"}}))
	wantRules(t, `rule r { out a; x = literal "l"; }`, withSteps(api.Step{Out: "x", Op: api.CLiteral, Lits: []string{"l"}}))
	wantRules(t, `rule r { out a; x = select "s" y; }`, withSteps(api.Step{Out: "x", Op: api.CSelect, Lits: []string{"s"}, Args: []string{"y"}}))
	wantRules(t, `rule r { out a; x = replace "b" "c" y; }`, withSteps(api.Step{Out: "x", Op: api.CReplace, Lits: []string{"b", "c"}, Args: []string{"y"}}))
	wantRules(t, `rule r { out a; x = prefix 70 y; }`, withSteps(api.Step{Out: "x", Op: api.CPrefix, N: 70, Args: []string{"y"}}))
}

// Steps keep their order, and nothing of one goes over into the next.
func TestStepsInARow(t *testing.T) {
	all := manySteps()
	wantRules(t, written(withSteps(all...), " "), withSteps(all...))
	slices.Reverse(all)
	wantRules(t, written(withSteps(all...), "\n"), withSteps(all...))
	for _, a := range all {
		for _, b := range all {
			b.Out = "z"
			wantRules(t, written(withSteps(a, b), " "), withSteps(a, b))
		}
	}
}

func TestRulesInARow(t *testing.T) {
	a := api.Rule{Name: "z", Ins: list("p q"), Outs: list("y x"), After: list("c a"), Steps: manySteps()}
	b := api.Rule{Name: "a", Outs: list("o")}
	c := withSteps(manySteps()...)
	for _, rs := range [][]api.Rule{{a}, {b}, {a, b}, {b, a}, {b, b}, {a, a}, {a, b, c}, {c, b, a, b, c}} {
		for _, gap := range []string{" ", "\n", "\t\r\n", " # x } ; \"\n"} {
			text := gap
			for _, r := range rs {
				text += written(r, gap) + gap
			}
			wantRules(t, text, rs...)
		}
	}
}

// Between words that cannot run into one another no blank has to stand.
func TestTightText(t *testing.T) {
	wantRules(t, `rule r{in x,y;out a,b;after q;a=copy x;b=concat x y;c=concat;d=replace"s""t"x;e=select"u"x;f=literal"v";g=prefix 3 x;}rule s{out c;}`,
		api.Rule{Name: "r", Ins: list("x y"), Outs: list("a b"), After: list("q"), Steps: []api.Step{
			{Out: "a", Op: api.CCopy, Args: list("x")},
			{Out: "b", Op: api.CConcat, Args: list("x y")},
			{Out: "c", Op: api.CConcat},
			{Out: "d", Op: api.CReplace, Lits: list("s t"), Args: list("x")},
			{Out: "e", Op: api.CSelect, Lits: list("u"), Args: list("x")},
			{Out: "f", Op: api.CLiteral, Lits: list("v")},
			{Out: "g", Op: api.CPrefix, N: 3, Args: list("x")},
		}},
		api.Rule{Name: "s", Outs: list("c")})
	wantRules(t, "#a\nrule#b\nr#{\n{#in x;\nout a#,b\n,c;}#", api.Rule{Name: "r", Outs: list("a c")})
}

// fill is a text with a place for a name, NAME, in each place of the grammar that takes one.
func fill() []string {
	return []string{
		`rule NAME { out a; }`,
		`rule r { in NAME; out a; }`,
		`rule r { in x, NAME; out a; }`,
		`rule r { in NAME, x; out a; }`,
		`rule r { out NAME; }`,
		`rule r { out a, NAME; }`,
		`rule r { out a; after NAME; }`,
		`rule r { out a; after x, NAME; }`,
		`rule r { out a; after q; NAME = copy x; }`,
		`rule r { out a; x = concat; NAME = copy x; }`,
		`rule r { out a; x = copy NAME; }`,
		`rule r { out a; x = need NAME; }`,
		`rule r { out a; x = sort NAME; }`,
		`rule r { out a; x = count NAME; }`,
		`rule r { out a; x = concat NAME; }`,
		`rule r { out a; x = concat y NAME z; }`,
		`rule r { out a; x = select "s" NAME; }`,
		`rule r { out a; x = replace "s" "t" NAME; }`,
		`rule r { out a; x = prefix 7 NAME; }`,
		`rule q { out a; } rule NAME { out a; }`,
	}
}

// A place that takes a name takes all of them: names of commands, numbers and names that look like a clause's word.
func TestValidNames(t *testing.T) {
	long := strings.Repeat("n", api.MaxName)
	for _, n := range []string{"a", "Z9._-", "a/b/c", "...", ".a", "-", "_", "copy", "need", "sort", "count", "concat", "literal", "select",
		"replace", "prefix", "In", "RULE", "rules", "ins", "outs", "afters", "in/out", "rule/in", "0", "7", "007", "2001", "-1", long} {
		for _, f := range fill() {
			want, _ := parse.File(strings.ReplaceAll(f, "NAME", "qqq"))
			rename(want, "qqq", n)
			wantRules(t, strings.ReplaceAll(f, "NAME", n), want...)
			if len(want) == 0 {
				t.Errorf("P5.1: no rules of %q", f)
			}
		}
	}
}

// rename writes to in the place of every name from in rs.
func rename(rs []api.Rule, from, to string) {
	for i := range rs {
		if rs[i].Name == from {
			rs[i].Name = to
		}
		for j := range rs[i].Steps {
			if rs[i].Steps[j].Out == from {
				rs[i].Steps[j].Out = to
			}
		}
	}
	for _, l := range lists(rs) {
		for i := range *l {
			if (*l)[i] == from {
				(*l)[i] = to
			}
		}
	}
}

// Neither a name word that is no valid name nor a string nor a mark stands where a name has to.
func TestWhereNamesHaveToBe(t *testing.T) {
	long := strings.Repeat("n", api.MaxName+1)
	for _, n := range []string{"rule", "in", "out", "after", "/", "/a", "a/", "a//b", ".", "..", "./a", "a/../b", "a/.", long,
		`"a"`, `""`, `"copy"`, "{", ",", "=", "(", ")", "+", "^", ":", "$"} {
		for _, f := range fill() {
			wantFault(t, strings.ReplaceAll(f, "NAME", n), strings.Index(f, "NAME"))
		}
	}
	for _, f := range fill() {
		at := strings.Index(f, "NAME")
		wantFault(t, f[:at], at)
		wantFault(t, f[:at]+" #NAME", at+6)
	}
}

// Strings stand for their bytes, whatever words they look like.
func TestStrings(t *testing.T) {
	for s, want := range map[string]string{
		`""`: "", `"a"`: "a", `"rule"`: "rule", `"}"`: "}", `";"`: ";", `"#"`: "#", `"2"`: "2", `"copy x"`: "copy x",
		`"\n\t\\\"\x00\xff"`: "\n\t\\\"\x00\xff", `"` + strings.Repeat("l", api.MaxLit+1) + `"`: strings.Repeat("l", api.MaxLit+1),
	} {
		wantRules(t, "rule r { out a; x = literal "+s+"; }", withSteps(api.Step{Out: "x", Op: api.CLiteral, Lits: []string{want}}))
		wantRules(t, "rule r { out a; x = select "+s+" y; }", withSteps(api.Step{Out: "x", Op: api.CSelect, Lits: []string{want}, Args: list("y")}))
		wantRules(t, "rule r { out a; x = replace "+s+` "2" y; }`, withSteps(api.Step{Out: "x", Op: api.CReplace, Lits: []string{want, "2"}, Args: list("y")}))
		wantRules(t, `rule r { out a; x = replace "1" `+s+" y; }", withSteps(api.Step{Out: "x", Op: api.CReplace, Lits: []string{"1", want}, Args: list("y")}))
	}
}

// No string stands for a word of the grammar, and no other word stands for a string.
func TestStringsAndOtherWords(t *testing.T) {
	for text, at := range map[string]int{
		`"rule" r { out a; }`:                              0,
		`rule "r" { out a; }`:                              5,
		`rule r "{" out a; }`:                              7,
		`rule r { "in" x; out a; }`:                        9,
		`rule r { "out" a; }`:                              9,
		`rule r { in x; "out" a; }`:                        15,
		`rule r { in x "," y; out a; }`:                    14,
		`rule r { in x ";" out a; }`:                       14,
		`rule r { out a; "after" b; }`:                     16,
		`rule r { out a; "x" = copy y; }`:                  16,
		`rule r { out a; x "=" copy y; }`:                  18,
		`rule r { out a; x = "copy" y; }`:                  20,
		`rule r { out a; x = "literal" "y"; }`:             20,
		`rule r { out a; x = copy y ";" }`:                 27,
		`rule r { out a; x = concat y "z"; }`:              29,
		`rule r { out a; x = concat "z"; }`:                27,
		`rule r { out a; x = concat ";" }`:                 27,
		`rule r { out a; x = prefix "7" y; }`:              27,
		`rule r { out a; "}"`:                              16,
		`rule r { out a; } "rule" s { out b; }`:            18,
		`rule r { out a; x = literal y; }`:                 28,
		`rule r { out a; x = literal 7; }`:                 28,
		`rule r { out a; x = literal; }`:                   27,
		`rule r { out a; x = literal "y" "z"; }`:           32,
		`rule r { out a; x = select y "s"; }`:              27,
		`rule r { out a; x = select "s" "t" y; }`:          31,
		`rule r { out a; x = select "s"; }`:                30,
		`rule r { out a; x = replace y "s" "t"; }`:         28,
		`rule r { out a; x = replace "s" y "t"; }`:         32,
		`rule r { out a; x = replace "s" "t"; }`:           35,
		`rule r { out a; x = replace "s" "t" "u" y; }`:     36,
		`rule r { out a; x = copy "y"; }`:                  25,
		`rule r { out a; x = prefix y 7; }`:                27,
		`rule r { out a; x = prefix 7; }`:                  28,
		`rule r { out a; x = prefix 7 7 7; }`:              31,
		`rule r { out a; x = prefix 7 "y"; }`:              29,
		`rule r { out a; x = copy 7 y; }`:                  27,
		`rule r { out a; x = copy "s" y; }`:                25,
		`rule r { out a; x = literal "s" y; }`:             32,
		`rule r { out a; x = prefix "s" 7 y; }`:            27,
		`rule r { out a; x = select 7 "s" y; }`:            27,
		`rule r { out a; x = replace "s", "t" y; }`:        31,
		`rule r { out a; x = concat y, z; }`:               28,
		`rule r { out a; x = copy y, z; }`:                 26,
		`rule r { out a; after b; in x; }`:                 25,
		`rule r { out a; out b; }`:                         16,
		`rule r { in x; in y; out a; }`:                    15,
		`rule r { after b; out a; }`:                       9,
		`rule r { x = copy y; out a; }`:                    9,
		`rule r { out a; x = copy y; after b; }`:           28,
		`rule r { out a; after b; after c; }`:              25,
		`rule r { out a; x = copy y;; }`:                   27,
		`rule r { out a;; }`:                               15,
		`rule r { out a; }; rule s { out b; }`:             17,
		`rule r { out a; rule s { out b; } }`:              16,
		`rule r { in x y; out a; }`:                        14,
		`rule r { in x; }`:                                 15,
		`rule r { in; out a; }`:                            11,
		`rule r { out ; }`:                                 13,
		`rule r { out a, ; }`:                              16,
		`rule r { out , a; }`:                              13,
		`rule r { out a; after ; }`:                        22,
		`rule r s { out a; }`:                              7,
		`rule { out a; }`:                                  5,
		`rule r { out a; x : copy y; }`:                    18,
		`rule r { out a; x = ; }`:                          20,
		`rule r { out a; = copy y; }`:                      16,
		`rule r { out a; x y = copy z; }`:                  18,
		`rule r ( out a; )`:                                7,
		`{ out a; }`:                                       0,
		`rules r { out a; }`:                               0,
		`Rule r { out a; }`:                                0,
		`r { out a; }`:                                     0,
		`rule r { Out a; }`:                                9,
		`rule r { In x; out a; }`:                          9,
		`rule r { out a; After b; }`:                       22,
		`rule r { out a; x = Copy y; }`:                    20,
		`rule r { out a; x = copies y; }`:                  20,
		`rule r { out a; x = cop y; }`:                     20,
		`rule r { out a; x = concat rule y; }`:             27,
		`rule r { out a; x = concat y a//b; }`:             29,
		`rule r { out a; x = concat y . z; }`:              29,
		"# one\nrule r { out a; }\n# two\nrule s out b; }": 37,
	} {
		wantFault(t, text, at)
	}
}

func TestNumbers(t *testing.T) {
	for n := 0; n <= api.MaxBytes; n++ {
		step := api.Step{Out: "x", Op: api.CPrefix, N: n, Args: list("y")}
		wantRules(t, "rule r { out a; x = prefix "+strconv.Itoa(n)+" y; }", withSteps(step))
	}
	for n := api.MaxBytes + 1; n < 3*api.MaxBytes; n++ {
		wantFault(t, "rule r { out a; x = prefix "+strconv.Itoa(n)+" y; }", 27)
	}
	for _, n := range []string{"00", "01", "007", "02000", "0000000", "20000", "99999", "9223372036854775807", "9223372036854775808",
		"18446744073709551616", "18446744073709551617", strings.Repeat("9", 1000), "-0", "-1", "+1", "1.0", "1e3", "0x1", "1_0", "7/7", "seven", "-",
		`"7"`, `""`, "=", "in"} {
		wantFault(t, "rule r { out a; x = prefix "+n+" y; }", 27)
	}
}

// places is the grammar as a table: from place to place by the sort of the next word.
// A file may end at its beginning only, which is also the place behind each rule.
func places() map[string]map[string]string {
	return map[string]map[string]string{
		"file":   {"rule": "rule", "END": "end"},
		"rule":   {"NAME": "named"},
		"named":  {"{": "open"},
		"open":   {"in": "in", "out": "out"},
		"in":     {"NAME": "in1"},
		"in1":    {",": "in", ";": "ins"},
		"ins":    {"out": "out"},
		"out":    {"NAME": "out1"},
		"out1":   {",": "out", ";": "outs"},
		"outs":   {"after": "after", "NAME": "made", "}": "file"},
		"after":  {"NAME": "after1"},
		"after1": {",": "after", ";": "steps"},
		"steps":  {"NAME": "made", "}": "file"},
		"made":   {"=": "op"},
		"op": {"copy": "arg", "need": "arg", "sort": "arg", "count": "arg", "concat": "args",
			"literal": "lit", "select": "lit+", "replace": "lit++", "prefix": "number"},
		"arg":    {"NAME": "close"},
		"args":   {"NAME": "args", ";": "steps"},
		"lit":    {"STRING": "close"},
		"lit+":   {"STRING": "arg"},
		"lit++":  {"STRING": "lit+"},
		"number": {"NUMBER": "arg"},
		"close":  {";": "steps"},
		"end":    {},
	}
}

// wordSorts returns some words, each with the sorts of places that it fits.
func wordSorts() map[string][]string {
	sorts := map[string][]string{
		"": {"END"}, "x": {"NAME"}, "in/out": {"NAME"}, "0": {"NAME", "NUMBER"}, "2000": {"NAME", "NUMBER"}, "2001": {"NAME"}, "01": {"NAME"},
		"a//b": nil, "..": nil, strings.Repeat("x", 41): nil, `""`: {"STRING"}, `"x"`: {"STRING"}, `"rule"`: {"STRING"}, `"7"`: {"STRING"}, `";"`: {"STRING"},
	}
	for _, w := range list("rule in out after { } , ; = ( ) + ^ : $") {
		sorts[w] = []string{w}
	}
	for _, w := range list("copy need sort count concat literal select replace prefix") {
		sorts[w] = []string{"NAME", w}
	}
	return sorts
}

// prefixes returns for each place but the end a short text that leads to it.
func prefixes() map[string]string {
	words := map[string]string{"NAME": "n", "STRING": `"s"`, "NUMBER": "7"}
	texts := map[string]string{"file": ""}
	for queue := []string{"file"}; len(queue) > 0; queue = queue[1:] {
		next := places()[queue[0]]
		for _, sort := range slices.Sorted(maps.Keys(next)) {
			to := next[sort]
			if _, known := texts[to]; known || to == "end" {
				continue
			}
			word := cmp.Or(words[sort], sort)
			texts[to] = texts[queue[0]] + word + " "
			queue = append(queue, to)
		}
	}
	return texts
}

// follow returns the place to which word leads from place, and whether it can stand there.
func follow(place, word string, grammar map[string]map[string]string, sorts map[string][]string) (string, bool) {
	for _, s := range sorts[word] {
		if to, ok := grammar[place][s]; ok {
			return to, true
		}
	}
	return "", false
}

// Every two words behind every place of the grammar: the first that cannot stand where it does is told, or there is none.
func TestEveryWordInEveryPlace(t *testing.T) {
	grammar, sorts := places(), wordSorts()
	tried := 0
	for place, prefix := range prefixes() {
		for first := range sorts {
			for second := range sorts {
				if first == "" && second != "" {
					continue
				}
				tried++
				wantPlace(t, place, prefix, []string{first, second}, grammar, sorts)
			}
		}
	}
	if tried < 22*38*38 {
		t.Errorf("P5.1: %d texts were tried", tried)
	}
}

// wantPlace fails unless File tells of prefix, which leads to place, and words what the grammar tells.
func wantPlace(t *testing.T, place, prefix string, words []string, grammar map[string]map[string]string, sorts map[string][]string) {
	t.Helper()
	text := prefix + strings.Join(words, " ")
	at := len(prefix)
	for _, w := range words {
		to, ok := follow(place, w, grammar, sorts)
		if !ok && w == "" {
			at = len(text)
		}
		if !ok {
			wantFault(t, text, at)
			return
		}
		if to == "end" {
			break
		}
		place, at = to, at+len(w)+1
	}
	if place != "file" {
		wantFault(t, text, len(text))
	} else if got, err := parse.File(text); err != (api.Err{}) || len(got) != strings.Count(text, "}") {
		t.Errorf("P5.1: File(%q) = %+v, %+v", text, got, err)
	}
}

// A text that stops early is wrong at its end, behind blanks and remarks, or where its last word is cut.
func TestEndOfText(t *testing.T) {
	const text = `rule r { in x , y ; out a , b ; after q ; a = concat x y ; b = replace "s" "t" x ; c = prefix 7 y ; }`
	words := strings.Fields(text)
	for n := 1; n < len(words); n++ {
		for _, tail := range []string{"", " ", "\n\n", "# x", " # rule }\n\t"} {
			s := strings.Join(words[:n], " ") + tail
			wantFault(t, s, len(s))
		}
	}
	wantRules(t, text+"# x", api.Rule{Name: "r", Ins: list("x y"), Outs: list("a b"), After: list("q"), Steps: []api.Step{
		{Out: "a", Op: api.CConcat, Args: list("x y")},
		{Out: "b", Op: api.CReplace, Lits: list("s t"), Args: list("x")},
		{Out: "c", Op: api.CPrefix, N: 7, Args: list("y")},
	}})
	wantFault(t, text+" "+text+" rule", 2*len(text)+6)
	wantFault(t, text+" "+text+" x", 2*len(text)+2)
}

// A word that is not valid counts ahead of one that cannot stand where it does, also when it comes later.
func TestBadWords(t *testing.T) {
	for text, at := range map[string]int{
		"!":                                  0,
		"rule ! x":                           5,
		`x "`:                                2,
		`} } } "\q"`:                         6,
		"rule rule !":                        10,
		"rule r { out a; } x \xff":           20,
		"rule r { out a; }\n?":               18,
		`rule r { out a; x = literal`:        27,
		`rule r { out a; x = literal "y; }`:  28,
		`rule r { x out a; y = literal "\y"`: 30,
		"x ! \" @":                           2,
		"# ! \"\nrule r { [a] }":             15,
	} {
		wantFault(t, text, at)
	}
	wantFault(t, `rule r { out a; x = literal "ok" } !`, 35)
	wantFault(t, `rule r { out a; x = literal "ok" } `, 33)
}

func TestLength(t *testing.T) {
	const rule = "rule r{out a;}"
	r := api.Rule{Name: "r", Outs: list("a")}
	blank := strings.Repeat(" ", api.MaxText)
	wantRules(t, rule+blank[len(rule):], r)
	wantRules(t, blank[len(rule):]+rule, r)
	wantRules(t, blank)
	wantRules(t, "#"+blank[1:])
	wantMost(t, rule+blank[len(rule):]+" ")
	wantMost(t, blank[len(rule):]+rule+" ")
	wantMost(t, blank+" ")
	wantMost(t, "#"+blank)
	wantMost(t, strings.Repeat(rule, 100000))

	text := strings.Repeat("l", api.MaxText-len(`rule r{out a;x=literal"";}`))
	wantRules(t, `rule r{out a;x=literal"`+text+`";}`, withSteps(api.Step{Out: "x", Op: api.CLiteral, Lits: []string{text}}))
	wantMost(t, `rule r{out a;x=literal"`+text+`l";}`)
}

// A text that is too long counts ahead of the words in it.
func TestTooLongAheadOfWords(t *testing.T) {
	blank := strings.Repeat(" ", api.MaxText)
	wantFault(t, blank[1:]+"!", api.MaxText-1)
	wantFault(t, "!"+blank[1:], 0)
	wantFault(t, blank[1:]+"x", api.MaxText-1)
	wantFault(t, "rule"+blank[4:], api.MaxText)
	wantFault(t, "x"+blank[2:]+"!", api.MaxText-1)
	for _, s := range []string{"!", "x", `"`, "rule", "x !", "\xff"} {
		wantMost(t, blank+s)
		wantMost(t, s+blank)
	}
}

// The limits of rules and what they mean are no business of the syntax.
func TestNothingElseIsChecked(t *testing.T) {
	var names []string
	for n := range 100 {
		names = append(names, "n"+strconv.Itoa(n))
	}
	wide := api.Rule{Name: "r", Ins: names, Outs: names, After: names, Steps: []api.Step{{Out: "x", Op: api.CConcat, Args: names}}}
	wantRules(t, written(wide, " "), wide)
	const short = "rule r{out a;x=copy y;x=need y;x=sort y;x=count y;}"
	wantRules(t, strings.Repeat(short, 300), slices.Repeat([]api.Rule{withSteps(manySteps()[:4]...)}, 300)...)
	many := withSteps(slices.Repeat(manySteps()[:1], 500)...)
	wantRules(t, written(many, " "), many)
	wantRules(t, "rule r { in r, r; out r, r, r; after r, r; r = copy r; r = copy q; }",
		api.Rule{Name: "r", Ins: list("r r"), Outs: list("r r r"), After: list("r r"), Steps: []api.Step{
			{Out: "r", Op: api.CCopy, Args: list("r")}, {Out: "r", Op: api.CCopy, Args: list("q")}}})
}

func TestOp(t *testing.T) {
	names := list("copy need sort count concat literal select replace prefix")
	numbers := []int{api.CCopy, api.CNeed, api.CSort, api.CCount, api.CConcat, api.CLiteral, api.CSelect, api.CReplace, api.CPrefix}
	for i, n := range names {
		if got := parse.Op(n); got != numbers[i] || got != i+1 {
			t.Errorf("P5.1: Op(%q) = %d, not %d", n, got, numbers[i])
		}
		if got := parse.OpName(numbers[i]); got != n {
			t.Errorf("P5.1: OpName(%d) = %q, not %q", numbers[i], got, n)
		}
		for _, s := range []string{strings.ToUpper(n), strings.ToUpper(n[:1]) + n[1:], n + "s", n[1:], n[:len(n)-1], " " + n, n + " ", `"` + n + `"`, n + "\x00", n + n} {
			if got := parse.Op(s); got != 0 {
				t.Errorf("P5.1: Op(%q) = %d, not 0", s, got)
			}
		}
	}
	for _, s := range []string{"", "0", "1", "rule", "in", "out", "after", "cut", "\xff", strings.Repeat("copy", 1<<18)} {
		if got := parse.Op(s); got != 0 {
			t.Errorf("P5.1: Op(%.20q) = %d, not 0", s, got)
		}
	}
}

func TestOpNameOfNoCommand(t *testing.T) {
	for _, op := range []int{0, -1, -9, 10, 11, 256, 257, 1 << 32, 1<<32 + 1, 1<<63 - 1, -1 << 63, -1<<63 + 1} {
		if got := parse.OpName(op); got != "" {
			t.Errorf("P5.1: OpName(%d) = %q, not none", op, got)
		}
	}
}

// lists returns all lists of names and strings in rs.
func lists(rs []api.Rule) []*[]string {
	var all []*[]string
	for i := range rs {
		all = append(all, &rs[i].Ins, &rs[i].Outs, &rs[i].After)
		for j := range rs[i].Steps {
			all = append(all, &rs[i].Steps[j].Args, &rs[i].Steps[j].Lits)
		}
	}
	return all
}

// What is done to one list of an answer, the room behind it among that, is seen in no other list and in no other answer.
func TestResultsAreNew(t *testing.T) {
	r := api.Rule{Name: "r", Ins: list("a b c"), Outs: list("d e f"), After: list("g h i"), Steps: manySteps()}
	text := written(r, " ") + written(r, " ")
	first, _ := parse.File(text)
	count := len(lists(first))
	for n := range count {
		first, _ = parse.File(text)
		l := lists(first)[n]
		for i := range *l {
			(*l)[i] = "other"
		}
		_ = append(*l, "over", "over", "over", "over")
		*l = slices.Clone(*lists([]api.Rule{r, r})[n])
		if !reflect.DeepEqual(bare(first), bare([]api.Rule{r, r})) {
			t.Errorf("P0.3: list %d shares memory with another", n)
		}
	}
	_ = append(first[0].Steps, api.Step{Out: "over"})
	_ = append(first[:1:2], api.Rule{Name: "over"})
	first[0].Steps[0] = api.Step{Out: "other"}
	wantRules(t, text, r, r)
}

// Rules that stand one behind the other have no room in common for their steps.
func TestStepsAreNew(t *testing.T) {
	one := withSteps(manySteps()...)
	rs, _ := parse.File(written(one, " ") + written(one, " "))
	for i := range rs[0].Steps {
		rs[0].Steps[i].Out = "other"
	}
	_ = append(rs[0].Steps, rs[0].Steps...)
	if !reflect.DeepEqual(bare(rs[1:]), bare([]api.Rule{one})) {
		t.Errorf("P0.3: the steps of two rules share memory")
	}
}

func TestAnyBytes(t *testing.T) {
	for a := range 256 {
		for b := range 256 {
			s := string([]byte{byte(a), byte(b)})
			if rs, err := parse.File(s); len(rs) != 0 || (err.Code != api.OK && err.Code != api.ErrForm) {
				t.Fatalf("P0.1: File(%q) = %+v, %+v", s, rs, err)
			}
		}
	}
	for _, s := range []string{strings.Repeat("{", api.MaxText), strings.Repeat("rule ", api.MaxText/5), strings.Repeat(`""`, api.MaxText/2)} {
		if rs, err := parse.File(s); rs != nil || err.Code != api.ErrForm {
			t.Errorf("P0.1: File(%.20q) = %+v, %+v", s, rs, err)
		}
	}
}
