package graph_test

import (
	"fmt"
	"math/rand/v2"
	"reflect"
	"slices"
	"strings"
	"testing"

	"shipwright/api"
	"shipwright/check"
	"shipwright/graph"
	"shipwright/parse"
)

func file(name string) api.Label { return api.Label{Name: name} }

func rule(name string) api.Label { return api.Label{Rule: true, Name: name} }

// list returns the labels of the words of s: a word with a colon ahead is a rule's, any other one a file's.
func list(s string) []api.Label {
	var ls []api.Label
	for _, word := range strings.Fields(s) {
		name, isRule := strings.CutPrefix(word, ":")
		ls = append(ls, api.Label{Rule: isRule, Name: name})
	}
	return ls
}

// told tells labels in a test's complaint.
func told(ls []api.Label) string {
	var words []string
	for _, l := range ls {
		kind := "file "
		if l.Rule {
			kind = "rule "
		}
		words = append(words, kind+fmt.Sprintf("%.60q", l.Name))
	}
	return fmt.Sprintf("[%.900s]", strings.Join(words, ", "))
}

// rulesOf returns the rules of a rule file.
func rulesOf(t *testing.T, text string) []api.Rule {
	t.Helper()
	rs, err := parse.File(text)
	if err.Code != api.OK {
		t.Fatalf("parse.File(%q) = %+v", text, err)
	}
	return rs
}

// graphOf returns the graph of the rules, which is not nil.
func graphOf(t *testing.T, rs []api.Rule) *graph.Graph {
	t.Helper()
	g := graph.New(rs...)
	if g == nil {
		t.Fatalf("P13.1: New of %.900s = nil", fmt.Sprintf("%+v", rs))
	}
	return g
}

// ordersOf calls f with l in every order.
func ordersOf[E any](l []E, f func([]E)) {
	var place func(at int)
	place = func(at int) {
		if at == len(l) {
			f(slices.Clone(l))
			return
		}
		for i := at; i < len(l); i++ {
			l[at], l[i] = l[i], l[at]
			place(at + 1)
			l[at], l[i] = l[i], l[at]
		}
	}
	l = slices.Clone(l)
	place(0)
}

// row is what a graph tells of one label.
type row struct {
	label        api.Label
	kind         int
	needs, users []api.Label
}

// rows returns the rows of the lines of s: a label and its kind, what it needs, and what needs it.
func rows(t *testing.T, s string) []row {
	t.Helper()
	kinds := map[string]int{"rule": api.LRule, "made": api.LMade, "source": api.LSource}
	var all []row
	for line := range strings.Lines(s) {
		parts := strings.Split(line, ";")
		head := strings.Fields(parts[0])
		if len(parts) != 3 || len(head) != 2 || kinds[head[1]] == 0 {
			t.Fatalf("no row: %q", line)
		}
		all = append(all, row{list(head[0])[0], kinds[head[1]], list(parts[1]), list(parts[2])})
	}
	return all
}

// wantLabel fails unless g tells what r does of its label.
func wantLabel(t *testing.T, g *graph.Graph, r row) {
	t.Helper()
	what := told([]api.Label{r.label})
	if got := g.Kind(r.label); got != r.kind {
		t.Errorf("P13.1: Kind of %s = %d, not %d", what, got, r.kind)
	}
	if got := g.Needs(r.label); !slices.Equal(got, r.needs) {
		t.Errorf("P13.1: Needs of %s = %s, not %s", what, told(got), told(r.needs))
	}
	if got := g.Users(r.label); !slices.Equal(got, r.users) {
		t.Errorf("P13.1: Users of %s = %s, not %s", what, told(got), told(r.users))
	}
	if r.label.Rule {
		if got, is := g.Rule(r.label.Name); is != (r.kind == api.LRule) || is && got.Name != r.label.Name {
			t.Errorf("P13.1: Rule of %s = %+v, %v", what, got, is)
		} else if !is && !reflect.DeepEqual(got, api.Rule{}) {
			t.Errorf("P13.1: Rule of %s = %+v beside false", what, got)
		}
		return
	}
	maker := ""
	if r.kind == api.LMade {
		maker = r.needs[0].Name
	}
	if got, is := g.Maker(r.label.Name); got != maker || is != (r.kind == api.LMade) {
		t.Errorf("P13.1: Maker of %s = %q, %v, not %q", what, got, is, maker)
	}
}

// wantRows fails unless g tells these rows, with All in their order, and nothing of any other label.
func wantRows(t *testing.T, g *graph.Graph, want []row) {
	t.Helper()
	var all []api.Label
	for _, r := range want {
		all = append(all, r.label)
	}
	if got := g.All(); !slices.Equal(got, all) {
		t.Errorf("P13.1: All = %s, not %s", told(got), told(all))
	}
	others := []api.Label{file(""), rule(""), file("none"), rule("none"), file("in"), rule("in")}
	for _, r := range want {
		wantLabel(t, g, r)
		l := r.label
		name, isRule := l.Name, l.Rule
		others = append(others, api.Label{Rule: !isRule, Name: name}, api.Label{Rule: isRule, Name: name + "x"}, api.Label{Rule: isRule, Name: name[1:]})
		others = append(others, api.Label{Rule: isRule, Name: ":" + name}, file(":"+name), rule(":"+name), api.Label{Rule: isRule, Name: strings.ToUpper(name) + "'"})
	}
	for _, l := range others {
		if !slices.Contains(all, l) {
			wantLabel(t, g, row{label: l})
		}
	}
}

// wantGraph fails unless the graph of the rules, in any order, tells the rows of the lines of want.
func wantGraph(t *testing.T, rs []api.Rule, want string) {
	t.Helper()
	ordersOf(rs, func(rs []api.Rule) {
		t.Helper()
		wantRows(t, graphOf(t, rs), rows(t, want))
	})
}

// wantRule fails unless Rule(want.Name) is want, whose lists and orders all count.
func wantRule(t *testing.T, g *graph.Graph, want api.Rule) {
	t.Helper()
	got, is := g.Rule(want.Name)
	if !is || !reflect.DeepEqual(plain(got), plain(want)) {
		t.Errorf("P13.1: Rule of %q = %+v, %v, not %+v", want.Name, got, is, want)
	}
}

// plain returns a copy of r with nil for each list that has no elements.
func plain(r api.Rule) api.Rule {
	r.Steps = slices.Clone(r.Steps)
	for _, l := range listsOf(&r) {
		*l = append([]string(nil), *l...)
	}
	if len(r.Steps) == 0 {
		r.Steps = nil
	}
	return r
}

// listsOf returns all lists of names and of strings in r.
func listsOf(r *api.Rule) []*[]string {
	all := []*[]string{&r.Ins, &r.Outs, &r.After}
	for i := range r.Steps {
		all = append(all, &r.Steps[i].Args, &r.Steps[i].Lits)
	}
	return all
}

// The chapter's example.
const (
	exampleRules = `rule a { in s; out x; x = copy s; }
rule b { in x, s; out y, z; y = copy x; z = copy s; }`
	exampleRows = `s source;; :a :b
x made; :a; :b
y made; :b;
z made; :b;
:a rule; s; x
:b rule; s x; y z`
)

func TestExample(t *testing.T) {
	rs := rulesOf(t, exampleRules)
	wantGraph(t, rs, exampleRows)
	ordersOf(rs, func(rs []api.Rule) {
		g := graphOf(t, rs)
		if name, is := g.Maker("z"); name != "b" || !is {
			t.Errorf("P13.1: Maker of z = %q, %v", name, is)
		}
		for _, r := range rs {
			wantRule(t, g, r)
		}
	})
}

func TestNoRules(t *testing.T) {
	for _, rs := range [][]api.Rule{nil, {}, make([]api.Rule, 0, 3)} {
		wantRows(t, graphOf(t, rs), nil)
	}
	wantRows(t, graphOf(t, nil), nil)
	wantRows(t, &graph.Graph{}, nil)
	if graph.New() == nil {
		t.Error("P13.1: New() = nil")
	}
}

func TestLeastGraph(t *testing.T) {
	wantGraph(t, rulesOf(t, `rule r { out a; a = concat; }`), `a made; :r;
:r rule;; a`)
}

// manyRules returns n rules, each of which makes one file of nothing.
func manyRules(n int) []api.Rule {
	var rs []api.Rule
	for i := range n {
		out := fmt.Sprint("o", i)
		rs = append(rs, api.Rule{Name: fmt.Sprint("r", i), Outs: []string{out}, Steps: []api.Step{{Out: out, Op: api.CConcat}}})
	}
	return rs
}

// refused returns lists of rules that check.All does not accept, most of them beside a rule that alone is good.
func refused(t *testing.T) map[string][]api.Rule {
	t.Helper()
	good := func(text string) []api.Rule {
		return rulesOf(t, `rule good { in s; out x; x = copy s; } `+text)
	}
	noOuts := good(`rule r { out a; a = concat; }`)
	noOuts[1].Outs = nil
	noName := good(`rule r { out a; a = concat; }`)
	noName[1].Name = ""
	wrongStep := good(`rule r { out a; a = concat; }`)
	wrongStep[1].Steps[0].N = 1
	return map[string][]api.Rule{
		"ErrForm, one empty rule":  {{}},
		"ErrForm, no Outs":         noOuts,
		"ErrForm, a name":          noName,
		"ErrForm, a step":          wrongStep,
		"ErrMost, Ins":             good(`rule r { in a, b, c, d, e, f, g, h, i; out o; o = concat; }`),
		"ErrMost, 41 rules":        manyRules(api.MaxRules + 1),
		"ErrName, an In twice":     good(`rule r { in a, a; out o; o = concat; }`),
		"ErrName, an Out twice":    good(`rule r { out o, o; o = concat; }`),
		"ErrName, In and Out":      good(`rule r { in a; out a; a = concat; }`),
		"ErrName, Out of no step":  good(`rule r { out a; }`),
		"ErrName, a rule twice":    good(`rule good { out a; a = concat; }`),
		"ErrName, the same twice":  good(`rule good { in s; out x; x = copy s; }`),
		"ErrName, a file twice":    good(`rule r { in s; out x; x = copy s; }`),
		"ErrName, After of none":   good(`rule r { out a; after none; a = concat; }`),
		"ErrName, After of a file": good(`rule r { out a; after x; a = concat; }`),
		"ErrCycle, of files":       good(`rule r { in a; out b; b = concat; } rule u { in b; out a; a = concat; }`),
		"ErrCycle, of After":       good(`rule r { out a; after u; a = concat; } rule u { out b; after r; b = concat; }`),
		"ErrCycle, of both":        good(`rule r { in b; out a; a = concat; } rule u { out b; after r; b = concat; }`),
	}
}

func TestRulesThatAreRefused(t *testing.T) {
	codes := map[string]api.Errno{"ErrForm": api.ErrForm, "ErrMost": api.ErrMost, "ErrName": api.ErrName, "ErrCycle": api.ErrCycle}
	for name, rs := range refused(t) {
		wanted, _, _ := strings.Cut(name, ",")
		if code, _ := check.All(rs); code != codes[wanted] {
			t.Fatalf("%s: check.All = %d", name, code)
		}
		for range 2 {
			if g := graph.New(rs...); g != nil {
				t.Errorf("P13.1: New of rules with %s is not nil, and has %s", name, told(g.All()))
			}
			slices.Reverse(rs)
		}
	}
	wantRows(t, graphOf(t, rulesOf(t, `rule good { in s; out x; x = copy s; }`)), rows(t, `s source;; :good
x made; :good;
:good rule; s; x`))
}

// As many rules as may be, with lists as long as may be.
func TestGreatestRules(t *testing.T) {
	var rs []api.Rule
	for i := range api.MaxRules {
		r := api.Rule{Name: fmt.Sprintf("%02d", i)}
		for j := range api.MaxIns {
			r.Ins = append(r.Ins, fmt.Sprintf("s%d", api.MaxIns-j))
		}
		for j := range min(i, api.MaxAfter) {
			r.After = append(r.After, rs[i-j-1].Name)
		}
		for j := range api.MaxOuts {
			r.Outs = append(r.Outs, fmt.Sprintf("o%02d.%d", i, j))
		}
		for j := range api.MaxSteps {
			s := api.Step{Out: fmt.Sprintf("t%d", j), Op: api.CConcat, Args: slices.Clone(r.Ins[:api.MaxArgs])}
			if j < api.MaxOuts {
				s.Out = r.Outs[j]
			}
			r.Steps = append(r.Steps, s)
		}
		rs = append(rs, r)
	}
	for range 2 {
		g := graphOf(t, rs)
		wantRows(t, g, naiveRows(rs))
		if got := len(g.All()); got != 40+8+160 {
			t.Errorf("P13.1: All has %d labels", got)
		}
		for _, r := range rs {
			wantRule(t, g, r)
		}
		slices.Reverse(rs)
	}
	if graph.New(append(rs, manyRules(1)...)...) != nil {
		t.Error("P13.1: New of 41 rules is not nil")
	}
}

// Files stand ahead of rules, and names are ordered byte by byte, whatever the order of the rules and of their lists.
func TestAscending(t *testing.T) {
	wantGraph(t, rulesOf(t, `rule b { in a/b, a.b, a-b, ab, aB, a, B, 9; out z9, z, Z, z10; z = concat; z9 = concat; Z = concat; z10 = concat; }
rule B { in z10, z, z9, Z; out -; - = concat z z; }
rule 10 { in z9, z10; out .a; .a = copy z9; }
rule 9 { in z10, Z, a; out _; _ = copy a; }`),
		`- made; :B;
.a made; :10;
9 source;; :b
B source;; :b
Z made; :b; :9 :B
_ made; :9;
a source;; :9 :b
a-b source;; :b
a.b source;; :b
a/b source;; :b
aB source;; :b
ab source;; :b
z made; :b; :B
z10 made; :b; :10 :9 :B
z9 made; :b; :10 :B
:10 rule; z10 z9; .a
:9 rule; Z a z10; _
:B rule; Z z z10 z9; -
:b rule; 9 B a a-b a.b a/b aB ab; Z z z10 z9`)
}

// The orders of Ins and of Outs are no matter of needs.
func TestInsAndOutsInAnyOrder(t *testing.T) {
	rs := rulesOf(t, `rule r { in p, q, u, v; out a, b, c, d; a = concat p q u v; b = copy a; c = copy b; d = copy c; }`)
	ordersOf(rs[0].Ins, func(ins []string) {
		ordersOf(rs[0].Outs, func(outs []string) {
			r := rs[0]
			r.Ins, r.Outs = ins, outs
			g := graphOf(t, []api.Rule{r})
			wantRows(t, g, rows(t, `a made; :r;
b made; :r;
c made; :r;
d made; :r;
p source;; :r
q source;; :r
u source;; :r
v source;; :r
:r rule; p q u v; a b c d`))
			wantRule(t, g, r)
		})
	})
}

// A file that many rules read, a source or a made one, is one label, which all of them need.
func TestManyReaders(t *testing.T) {
	wantGraph(t, rulesOf(t, `rule d { in s, t; out m; m = copy s; }
rule c { in m, s; out n; n = concat m s; }
rule a { in s, m; out o; o = concat; }
rule b { in n, m, s; out p; p = copy n; }`), `m made; :d; :a :b :c
n made; :c; :b
o made; :a;
p made; :b;
s source;; :a :b :c :d
t source;; :d
:a rule; m s; o
:b rule; m n s; p
:c rule; m s; n
:d rule; s t; m`)
}

// A rule without Ins needs nothing, not its Outs, nor do the files that it makes need each other.
func TestNoIns(t *testing.T) {
	wantGraph(t, rulesOf(t, `rule r { out b, a; a = literal "x"; b = copy a; } rule u { out c; c = concat; }`), `a made; :r;
b made; :r;
c made; :u;
:r rule;; a b
:u rule;; c`)
}

// A rule and a file of one name are two labels.
func TestRuleAndFileOfOneName(t *testing.T) {
	wantGraph(t, rulesOf(t, `rule a { in b; out c; c = copy b; }
rule b { in c, d; out a; a = copy c; }
rule c { in a; out e; e = copy a; }
rule e { in e; out f; f = copy e; }`), `a made; :b; :c
b source;; :a
c made; :a; :b
d source;; :b
e made; :c; :e
f made; :e;
:a rule; b; c
:b rule; c d; a
:c rule; a; e
:e rule; e; f`)
	// A rule of the name of the file that it makes.
	wantGraph(t, rulesOf(t, `rule x { in s; out x; x = copy s; } rule s { in x; out y; y = copy x; }`), `s source;; :x
x made; :x; :s
y made; :s;
:s rule; x; y
:x rule; s; x`)
}

// After makes no need, and adds no label.
func TestAfter(t *testing.T) {
	rs := rulesOf(t, `rule c { in x; out w; after b, a; w = copy x; }
rule b { out v; after a; v = concat; }
rule a { in s; out x; x = copy s; }
rule d { out u; after c, a, b; u = concat; }`)
	const want = `s source;; :a
u made; :d;
v made; :b;
w made; :c;
x made; :a; :c
:a rule; s; x
:b rule;; v
:c rule; x; w
:d rule;; u`
	wantGraph(t, rs, want)
	for i := range rs {
		rs[i].After = nil
	}
	wantGraph(t, rs, want)
}

// What steps do is no matter of needs: an In that none reads is needed, and a file of a step alone is no label.
func TestSteps(t *testing.T) {
	wantGraph(t, rulesOf(t, `rule r { in p, q; out a; t = copy p; a = copy t; dead = sort t; }`), `a made; :r;
p source;; :r
q source;; :r
:r rule; p q; a`)
	// Nor does such a file become a made one where another rule reads it, nor its rule a user of the rule that makes one of that name.
	wantGraph(t, rulesOf(t, `rule r { in p; out a; t = copy p; b = copy t; a = copy b; }
rule u { in t; out b; a = copy t; b = copy t; }`), `a made; :r;
b made; :u;
p source;; :r
t source;; :u
:r rule; p; a
:u rule; t; b`)
}

func TestMaker(t *testing.T) {
	rs := rulesOf(t, `rule r { in s, p; out a, b, c, d; a = concat; b = concat; c = concat; t = concat; d = concat; }
rule o { in d; out e; e = copy d; }
rule u { in e, s; out r; r = copy s; }`)
	ordersOf(rs, func(rs []api.Rule) {
		g := graphOf(t, rs)
		for file, want := range map[string]string{"a": "r", "b": "r", "c": "r", "d": "r", "e": "o", "r": "u"} {
			if name, is := g.Maker(file); name != want || !is {
				t.Errorf("P13.1: Maker of %q = %q, %v, not %q", file, name, is, want)
			}
		}
		// Sources, a file of a step alone, rules, and what there is not.
		for _, file := range []string{"s", "p", "t", "o", "u", "none", "", ":r", ":a", "A", "aa", "a/", "/a", "in", "\xff", strings.Repeat("a", 1<<20)} {
			if name, is := g.Maker(file); name != "" || is {
				t.Errorf("P13.1: Maker of %.50q = %q, %v", file, name, is)
			}
		}
	})
}

func TestRule(t *testing.T) {
	rs := rulesOf(t, `rule r { in q, p; out b, a; after z, y; t = replace "x" "" p; b = concat t q p t; s = literal "l"; u = select "w" q; b2 = prefix 7 b; a = need s; n = count u; }
rule z { out w; after y; w = concat; }
rule u { in a, b; out v, d; d = sort b; v = copy a; }
rule y { out e; e = literal ""; }
rule e { in s; out y; y = copy s; }`)
	ordersOf(rs, func(rs []api.Rule) {
		g := graphOf(t, rs)
		for _, r := range rs {
			wantRule(t, g, r)
		}
		// Files, and what there is not.
		for _, name := range []string{"a", "b", "p", "q", "t", "v", "s", "none", "", ":r", "R", "rr", "in", "\xff", strings.Repeat("r", 1<<20)} {
			if r, is := g.Rule(name); is || !reflect.DeepEqual(r, api.Rule{}) {
				t.Errorf("P13.1: Rule of %.50q = %+v, %v", name, r, is)
			}
		}
	})
}

// The lists of a rule that have no elements are nil or empty, whichever New was given.
func TestEmptyLists(t *testing.T) {
	for _, none := range [][]string{nil, {}, make([]string, 0, 2)} {
		r := api.Rule{Name: "r", Ins: none, Outs: []string{"a"}, After: none, Steps: []api.Step{{Out: "a", Op: api.CConcat, Args: none, Lits: none}}}
		g := graphOf(t, []api.Rule{r})
		wantRule(t, g, r)
		wantRows(t, g, rows(t, `a made; :r;
:r rule;; a`))
	}
}

func TestNilGraph(t *testing.T) {
	var none *graph.Graph
	wantRows(t, none, nil)
	if none.All() != nil {
		t.Error("P13.1: All of a nil *Graph is not nil")
	}
	for _, l := range list("a s x :a :b :r") {
		wantLabel(t, none, row{label: l})
		if none.Needs(l) != nil || none.Users(l) != nil {
			t.Errorf("P13.1: Needs or Users of %s of a nil *Graph are not nil", told([]api.Label{l}))
		}
	}
	wantRows(t, graph.New(api.Rule{}), nil)
}

// Labels and names beyond all that is sound are in no graph, and no reason to panic or to go on for ever.
func TestLabelsBeyondAll(t *testing.T) {
	g := graphOf(t, rulesOf(t, exampleRules))
	for _, name := range []string{"", " ", "s ", " s", "s\n", "s\x00", "\x00", "\xff", "ö", ":s", "./s", "s/", "/s", "..", "in", "rule", strings.Repeat("s/", 1<<20)} {
		wantLabel(t, g, row{label: file(name)})
		wantLabel(t, g, row{label: rule(name)})
	}
	self := api.Rule{Name: "r", Ins: []string{"a"}, Outs: []string{"a"}, Steps: []api.Step{{Out: "a", Op: api.CCopy, Args: []string{"a"}}}}
	for _, rs := range [][]api.Rule{
		{self}, make([]api.Rule, 1<<18), slices.Repeat([]api.Rule{self}, 1<<14),
		{{Name: "r", Ins: make([]string, 1<<18), Outs: []string{"a"}}}, {{Name: "r", Outs: make([]string, 1<<18)}},
		{{Name: "r", Outs: []string{"a"}, Steps: make([]api.Step, 1<<18)}}, {{Name: "r", Outs: []string{"a"}, Steps: []api.Step{{Out: "a", Op: -1 << 63, N: -1 << 63}}}},
	} {
		if graph.New(rs...) != nil {
			t.Errorf("P13.1: New of %.200s is not nil", fmt.Sprintf("%+v", rs[0]))
		}
	}
}

// room returns a copy of s with spare room, in which more stands.
func room[E any](s []E, more E) []E {
	all := append(make([]E, 0, len(s)+3), s...)
	return append(all, more, more, more)[:len(s)]
}

// roomy returns copies of the rules, whose lists all have spare room, in which spare stands.
func roomy(rs []api.Rule, spare string) []api.Rule {
	rs = room(rs, api.Rule{Name: spare, Outs: []string{spare}})
	for i := range rs {
		rs[i].Steps = room(rs[i].Steps, api.Step{Out: spare, Args: []string{spare}})
		for _, l := range listsOf(&rs[i]) {
			*l = room(*l, spare)
		}
	}
	return rs
}

// spread returns a deep copy of the rules, with what stands in the spare room of their lists.
func spread(rs []api.Rule) []api.Rule {
	rs = slices.Clone(rs[:cap(rs)])
	for i := range rs {
		rs[i].Steps = slices.Clone(rs[i].Steps[:cap(rs[i].Steps)])
		for _, l := range listsOf(&rs[i]) {
			*l = slices.Clone((*l)[:cap(*l)])
		}
	}
	return rs
}

// spoil writes into all of l, its spare room among that.
func spoil[E any](l []E, with E) {
	l = l[:cap(l)]
	for i := range l {
		l[i] = with
	}
}

// spoilRule writes into all lists of r and of its steps, and into the spare room of these.
func spoilRule(r api.Rule, with string) {
	for _, s := range r.Steps[:cap(r.Steps)] {
		spoil(s.Args, with)
		spoil(s.Lits, with)
	}
	spoil(r.Steps, api.Step{Out: with, Op: api.CCopy, Args: []string{with}, N: 7})
	spoil(r.Ins, with)
	spoil(r.Outs, with)
	spoil(r.After, with)
}

// full is a rule file whose lists all have elements, those of steps too.
const full = `rule a { in s; out x; after d; x = replace "p" "q" s; }
rule b { in x, s; out y, z; after d, a; t = literal "l"; y = concat x t s; z = select "w" s; }
rule c { in y, u; out w; after b, d; w = concat y u; }
rule d { out v; v = concat; }`

// Neither the rules, nor their lists, nor the spare room of any, change, whether they are accepted or not.
func TestWhatIsPassedInStays(t *testing.T) {
	all := refused(t)
	all["accepted"] = rulesOf(t, full)
	for name, rs := range all {
		slices.Reverse(rs)
		rs = roomy(rs, "spare")
		were := spread(rs)
		g := graph.New(rs...)
		for _, l := range append(g.All(), list("s x :a :b :spare spare")...) {
			g.Kind(l)
			g.Needs(l)
			g.Users(l)
			g.Maker(l.Name)
			r, _ := g.Rule(l.Name)
			spoilRule(r, "changed")
		}
		if got := spread(rs); !reflect.DeepEqual(got, were) {
			t.Errorf("P13.1: with %s, New changed its rules to %+v", name, got)
		}
	}
}

// A graph stays what it was whatever becomes of the rules that it was made of, and of their spare room.
func TestWhatIsPassedInIsNotKept(t *testing.T) {
	rs, names := roomy(rulesOf(t, full), "spare"), list(":a :b :c :d")
	fresh := rulesOf(t, full)
	g := graphOf(t, rs)
	wantFull := func() {
		t.Helper()
		wantRows(t, g, naiveRows(fresh))
		for _, r := range fresh {
			wantRule(t, g, r)
		}
	}
	wantFull()
	for i := range rs {
		spoilRule(rs[i], "changed")
		wantFull()
	}
	spoil(rs, api.Rule{Name: "changed"})
	wantFull()
	for _, l := range append(names, rule("spare"), rule("changed"), file("spare"), file("changed")) {
		if is := g.Kind(l) != 0; is != slices.Contains(names, l) {
			t.Errorf("P13.1: after its rules were changed, a graph has %s: %v", told([]api.Label{l}), is)
		}
	}
	// The same rules, changed one place at a time while the graph is there.
	for i := range fresh {
		given := rulesOf(t, full)
		g = graphOf(t, given)
		for _, l := range listsOf(&given[i]) {
			spoil(*l, "changed")
			wantFull()
		}
		given[i].Steps[0] = api.Step{Out: "changed"}
		wantFull()
		given[i] = api.Rule{}
		wantFull()
	}
}

// What is returned is the caller's own, its spare room among that: a change of it turns no other answer, earlier or later.
func TestAnswersAreTheCallersOwn(t *testing.T) {
	rs := rulesOf(t, full)
	g, want := graphOf(t, rs), naiveRows(rs)
	calls := []func() []api.Label{g.All}
	for _, r := range want {
		calls = append(calls, func() []api.Label { return g.Needs(r.label) }, func() []api.Label { return g.Users(r.label) })
	}
	for _, call := range append(calls, func() []api.Label { return g.Needs(rule("none")) }, func() []api.Label { return g.Users(file("none")) }) {
		was := slices.Clone(call())
		answers := [][]api.Label{call(), call(), call()}
		for i, answer := range answers {
			spoil(answer, file("changed"))
			// Ahead of the next call, which would make a shared one good again.
			for _, other := range answers[i+1:] {
				if !slices.Equal(other, was) {
					t.Fatalf("P13.1: an answer beside one that was changed is %s, not %s", told(other), told(was))
				}
			}
			wantRows(t, g, want)
		}
	}
	for _, r := range rs {
		wantRule(t, g, r)
	}
}

// All answers at once, each changed while the others wait.
func TestAnswersShareNothing(t *testing.T) {
	rs := rulesOf(t, full)
	g := graphOf(t, rs)
	all := func() [][]api.Label {
		answers := [][]api.Label{g.All()}
		for _, l := range g.All() {
			answers = append(answers, g.Needs(l), g.Users(l))
		}
		return answers
	}
	answers, fresh := all(), all()
	for i, answer := range answers {
		spoil(answer, rule("changed"))
		for j := i + 1; j < len(answers); j++ {
			if !slices.Equal(answers[j], fresh[j]) {
				t.Fatalf("P13.1: an answer turned from %s to %s when another one was changed", told(fresh[j]), told(answers[j]))
			}
		}
	}
	wantRows(t, g, naiveRows(rs))
}

// A rule that was returned may be changed in each of its lists, and in those of its steps; no other rule turns, nor another list of the same one.
func TestRulesAreTheCallersOwn(t *testing.T) {
	rs := rulesOf(t, full)
	g, want := graphOf(t, rs), naiveRows(rs)
	for _, r := range rs {
		mine, _ := g.Rule(r.Name)
		other, _ := g.Rule(r.Name)
		was := listsOf(&r)
		lists := listsOf(&mine)
		for i, l := range lists {
			spoil(*l, "changed")
			for j := i + 1; j < len(lists); j++ {
				if !slices.Equal(*lists[j], *was[j]) {
					t.Errorf("P13.1: list %d of rule %q turned to %q when list %d was changed", j, r.Name, *lists[j], i)
				}
			}
			wantRule(t, g, r)
			wantRows(t, g, want)
		}
		spoilRule(mine, "changed")
		if !reflect.DeepEqual(plain(other), plain(r)) {
			t.Errorf("P13.1: a rule beside one that was changed is %+v, not %+v", other, r)
		}
		for _, s := range rs {
			wantRule(t, g, s)
		}
		wantRows(t, g, want)
	}
}

// No graph hangs on another one, also of the same rules, and each call tells the same again.
func TestGraphsAreApart(t *testing.T) {
	first := graphOf(t, rulesOf(t, exampleRules))
	second := graphOf(t, rulesOf(t, `rule a { in x; out s; s = copy x; } rule c { in z; out y; y = copy z; }`))
	same := graphOf(t, rulesOf(t, exampleRules))
	graph.New(refused(t)["ErrCycle, of both"]...)
	for range 50 {
		for _, g := range []*graph.Graph{first, same} {
			wantRows(t, g, rows(t, exampleRows))
		}
		wantRows(t, second, rows(t, `s made; :a;
x source;; :a
y made; :c;
z source;; :c
:a rule; x; s
:c rule; z; y`))
		wantRows(t, nil, nil)
	}
}

// makerOf returns the rule that makes a file, if one does.
func makerOf(rs []api.Rule, file string) (api.Rule, bool) {
	for _, r := range rs {
		if slices.Contains(r.Outs, file) {
			return r, true
		}
	}
	return api.Rule{}, false
}

// byKindAndName compares labels as chapter 12 tells it.
func byKindAndName(a, b api.Label) int {
	switch {
	case !a.Rule && b.Rule:
		return -1
	case a.Rule && !b.Rule:
		return 1
	}
	return strings.Compare(a.Name, b.Name)
}

// needsLabel reports whether l needs other, as the chapter's first sentence tells it.
func needsLabel(rs []api.Rule, l, other api.Label) bool {
	if l.Rule {
		at := slices.IndexFunc(rs, func(r api.Rule) bool { return r.Name == l.Name })
		return !other.Rule && slices.Contains(rs[at].Ins, other.Name)
	}
	r, isMade := makerOf(rs, l.Name)
	return isMade && other == rule(r.Name)
}

// naiveRows is what the graph of the rules is to tell, by the chapter's words taken label by label.
func naiveRows(rs []api.Rule) []row {
	var all []api.Label
	for _, r := range rs {
		all = append(all, rule(r.Name))
		for _, name := range slices.Concat(r.Ins, r.Outs) {
			all = append(all, file(name))
		}
	}
	slices.SortFunc(all, byKindAndName)
	all = slices.Compact(all)
	var table []row
	for _, l := range all {
		r := row{label: l, kind: api.LSource}
		if _, isMade := makerOf(rs, l.Name); l.Rule {
			r.kind = api.LRule
		} else if isMade {
			r.kind = api.LMade
		}
		for _, other := range all {
			if needsLabel(rs, l, other) {
				r.needs = append(r.needs, other)
			}
			if needsLabel(rs, other, l) {
				r.users = append(r.users, other)
			}
		}
		table = append(table, r)
	}
	return table
}

// mixed returns a copy of l in any order.
func mixed[E any](rnd *rand.Rand, l []E) []E {
	l = slices.Clone(l)
	rnd.Shuffle(len(l), func(i, j int) { l[i], l[j] = l[j], l[i] })
	return l
}

// anyRules returns rules that check.All accepts; files, rules and files of steps alone often have one name.
func anyRules(rnd *rand.Rand) []api.Rule {
	names := strings.Fields("a b c d e f g h A B a/b a.b a-b a0 a1 a10 0 1 z z/z z-z zz _ x x.c x.o")
	known, free := mixed(rnd, names)[:2+rnd.IntN(8)], []string(nil)
	for _, name := range mixed(rnd, names) {
		if !slices.Contains(known, name) {
			free = append(free, name)
		}
	}
	var rs []api.Rule
	for _, name := range mixed(rnd, names)[:rnd.IntN(8)] {
		// Ins of what is there so far, so that there is no cycle.
		n := min(1+rnd.IntN(4), len(free))
		if n == 0 {
			break
		}
		r := api.Rule{Name: name, Ins: mixed(rnd, known)[:min(rnd.IntN(7), len(known))], Outs: slices.Clone(free[:n])}
		made := mixed(rnd, r.Outs)
		if alone := names[rnd.IntN(len(names))]; !slices.Contains(r.Ins, alone) && !slices.Contains(r.Outs, alone) {
			made = append([]string{alone}, made...)
		}
		for _, out := range made {
			r.Steps = append(r.Steps, api.Step{Out: out, Op: api.CConcat, Args: mixed(rnd, r.Ins)[:min(rnd.IntN(4), len(r.Ins))]})
		}
		for _, other := range mixed(rnd, rs)[:min(len(rs), rnd.IntN(3))] {
			r.After = append(r.After, other.Name)
		}
		rs, known, free = append(rs, r), append(known, r.Outs...), free[n:]
	}
	return mixed(rnd, rs)
}

// Made-up rules, against the chapter's words taken label by label.
func TestAnyRules(t *testing.T) {
	rules, shared, both := 0, 0, 0
	for seed := range uint64(2000) {
		rnd := rand.New(rand.NewPCG(13, seed))
		rs := anyRules(rnd)
		if code, name := check.All(rs); code != api.OK {
			t.Fatalf("check.All(%+v) = %d, %q", rs, code, name)
		}
		g, want := graphOf(t, roomy(rs, "spare")), naiveRows(rs)
		wantRows(t, g, want)
		for _, r := range rs {
			wantRule(t, g, r)
		}
		for _, r := range want {
			if !r.label.Rule && len(r.users) > 1 {
				shared++
			}
			if r.label.Rule && slices.ContainsFunc(want, func(o row) bool { return o.label == file(r.label.Name) }) {
				both++
			}
		}
		rules += len(rs)
		if t.Failed() {
			t.Fatalf("the rules: %+v", rs)
		}
	}
	if rules < 5000 || shared < 3000 || both < 1000 {
		t.Errorf("the made-up rules are lopsided: %d rules, %d files that many read, %d rules with the name of a file", rules, shared, both)
	}
}
