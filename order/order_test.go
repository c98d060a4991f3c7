package order_test

import (
	"fmt"
	"math"
	"math/rand/v2"
	"reflect"
	"slices"
	"strings"
	"testing"

	"shipwright/api"
	"shipwright/check"
	"shipwright/graph"
	"shipwright/order"
	"shipwright/parse"
)

// Any number of labels, or of files, may be handed in.
var (
	_ func(*graph.Graph, int, ...api.Label) []api.Label = order.Deps
	_ func(*graph.Graph, ...api.Label) []api.Label      = order.Rdeps
	_ func(*graph.Graph, ...string) []string            = order.Cone
)

func file(name string) api.Label { return api.Label{Name: name} }

func rule(name string) api.Label { return api.Label{Rule: true, Name: name} }

// labelsOf returns the labels that words tell: one with a colon ahead a rule's, any other one a file's.
func labelsOf(words []string) []api.Label {
	var ls []api.Label
	for _, word := range words {
		name, isRule := strings.CutPrefix(word, ":")
		ls = append(ls, api.Label{Rule: isRule, Name: name})
	}
	return ls
}

// wordsOf returns the words that tell labels.
func wordsOf(ls []api.Label) []string {
	var words []string
	for _, l := range ls {
		if l.Rule {
			words = append(words, ":"+l.Name)
		} else {
			words = append(words, l.Name)
		}
	}
	return words
}

// toldRules tells rules in a test's complaint.
func toldRules(rs []api.Rule) string { return fmt.Sprintf("%.900s", fmt.Sprintf("%+v", rs)) }

// rulesOf returns the rules of a rule file.
func rulesOf(t *testing.T, text string) []api.Rule {
	t.Helper()
	rs, err := parse.File(text)
	if err.Code != api.OK {
		t.Fatalf("parse.File(%q) = %+v", text, err)
	}
	return rs
}

// graphOf returns the graph of rules, which is not nil.
func graphOf(t *testing.T, rs []api.Rule) *graph.Graph {
	t.Helper()
	g := graph.New(rs...)
	if g == nil {
		t.Fatalf("graph.New of %s = nil", toldRules(rs))
	}
	return g
}

// ordersOf calls f with l in every order.
func ordersOf[E any](l []E, f func([]E)) {
	var place func(at int)
	place = func(at int) {
		if at == len(l) {
			f(slices.Clone(l))
			return
		}
		for i := at; i < len(l); i++ {
			l[at], l[i] = l[i], l[at]
			place(at + 1)
			l[at], l[i] = l[i], l[at]
		}
	}
	l = slices.Clone(l)
	place(0)
}

// call is one of Deps, Rdeps and Cone, by the words of its labels or its files.
type call struct {
	name   string
	answer func(g *graph.Graph, words []string) []string
}

func deps(far int) call {
	return call{fmt.Sprintf("Deps, %d,", far), func(g *graph.Graph, words []string) []string {
		return wordsOf(order.Deps(g, far, labelsOf(words)...))
	}}
}

func rdeps() call {
	return call{"Rdeps", func(g *graph.Graph, words []string) []string {
		return wordsOf(order.Rdeps(g, labelsOf(words)...))
	}}
}

func cone() call {
	return call{"Cone", func(g *graph.Graph, words []string) []string {
		return order.Cone(g, words...)
	}}
}

// row is a call, the words that it is asked with, and those that it is to answer.
type row struct {
	call     call
	of, want string
}

// wantAnswer fails unless the call of the words of is want.
func wantAnswer(t *testing.T, g *graph.Graph, c call, of, want []string) {
	t.Helper()
	if got := c.answer(g, of); !slices.Equal(got, want) {
		t.Errorf("P14.1: %s of %.300q = %.300q, not %.300q", c.name, of, got, want)
	}
}

// wantRows fails unless the calls answer what the rows say, whatever the order of the rules and of the words.
func wantRows(t *testing.T, rs []api.Rule, rows ...row) {
	t.Helper()
	ordersOf(rs, func(rs []api.Rule) {
		t.Helper()
		g := graphOf(t, rs)
		for _, r := range rows {
			ordersOf(strings.Fields(r.of), func(of []string) {
				t.Helper()
				wantAnswer(t, g, r.call, of, strings.Fields(r.want))
			})
		}
	})
}

// example is the chapter's.
const example = `rule a { in s; out x; x = copy s; }
rule b { in x, s; out y, z; y = copy x; z = copy s; }
rule c { in y, u; out w; after d; w = copy y; }
rule d { out v; after a; v = concat; }`

func TestExample(t *testing.T) {
	rs := rulesOf(t, example)
	wantRows(t, rs, row{deps(1), "w", "w :c"}, row{rdeps(), "s", "s w x y z :a :b :c"}, row{cone(), "w", "a b c"})
	wantOrders(t, rs, "a b d c", "a; b d; c")
}

func TestHowFar(t *testing.T) {
	const all = "s u w x y :a :b :c"
	wantRows(t, rulesOf(t, example),
		row{deps(0), "w", "w"},
		row{deps(1), "w", "w :c"},
		row{deps(2), "w", "u w y :c"},
		row{deps(3), "w", "u w y :b :c"},
		row{deps(4), "w", "s u w x y :b :c"},
		row{deps(5), "w", all},
		row{deps(6), "w", all},
		row{deps(7), "w", all},
		row{deps(1 << 40), "w", all},
		row{deps(math.MaxInt), "w", all},
		row{deps(-1), "w", all},
		row{deps(-2), "w", all},
		row{deps(-5), "w", all},
		row{deps(math.MinInt + 1), "w", all},
		row{deps(math.MinInt), "w", all},
	)
}

// What is reached by a long way and by a short one is as far away as the short one is long.
func TestHowFarByTheShortestWay(t *testing.T) {
	wantRows(t, rulesOf(t, `rule a { in s; out x; x = copy s; }
rule b { in x; out y; y = copy x; }
rule c { in y, x; out z; z = concat y x; }
rule d { in z, p; out w; w = copy z; }`),
		row{deps(2), "z", "x y z :c"},
		row{deps(3), "z", "x y z :a :b :c"},
		row{deps(4), "z", "s x y z :a :b :c"},
		row{deps(1), "z x", "x z :a :c"},
		row{deps(2), "z x", "s x y z :a :c"},
		row{deps(3), "z x", "s x y z :a :b :c"},
		row{deps(2), "w y", "p w x y z :b :d"},
		row{deps(3), "w y", "p w x y z :a :b :c :d"},
		row{deps(4), "w y", "p s w x y z :a :b :c :d"},
	)
}

func TestDepsOfEachKind(t *testing.T) {
	wantRows(t, rulesOf(t, example),
		// A rule.
		row{deps(0), ":c", ":c"},
		row{deps(1), ":c", "u y :c"},
		row{deps(2), ":c", "u y :b :c"},
		row{deps(-1), ":c", "s u x y :a :b :c"},
		// A file that a rule makes beside another one.
		row{deps(0), "z", "z"},
		row{deps(1), "z", "z :b"},
		row{deps(2), "z", "s x z :b"},
		row{deps(-1), "z", "s x z :a :b"},
		// A source.
		row{deps(0), "s", "s"},
		row{deps(1), "s", "s"},
		row{deps(99), "u", "u"},
		row{deps(-1), "s", "s"},
		// A rule that has no Ins, and what it makes.
		row{deps(1), ":d", ":d"},
		row{deps(-1), ":d", ":d"},
		row{deps(1), "v", "v :d"},
		row{deps(-1), "v", "v :d"},
	)
}

func TestDepsOfSeveral(t *testing.T) {
	wantRows(t, rulesOf(t, example),
		row{deps(0), "w v s", "s v w"},
		row{deps(0), ":c w :a s", "s w :a :c"},
		row{deps(1), "w v s", "s v w :c :d"},
		row{deps(-1), "v z", "s v x z :a :b :d"},
		// One is reached from another.
		row{deps(0), ":b :a x", "x :a :b"},
		row{deps(1), "w :c", "u w y :c"},
		row{deps(1), "z :b x", "s x z :a :b"},
		row{deps(2), "w y", "s u w x y :b :c"},
		row{deps(-1), "w y s", "s u w x y :a :b :c"},
		// One is said twice.
		row{deps(0), "z z v", "v z"},
		row{deps(0), ":a :a", ":a"},
		row{deps(1), "w w", "w :c"},
		row{deps(-1), "v v v v", "v :d"},
	)
}

func TestRdepsOfEachKind(t *testing.T) {
	wantRows(t, rulesOf(t, example),
		row{rdeps(), ":a", "w x y z :a :b :c"},
		row{rdeps(), ":b", "w y z :b :c"},
		row{rdeps(), ":c", "w :c"},
		row{rdeps(), ":d", "v :d"},
		row{rdeps(), "x", "w x y z :b :c"},
		row{rdeps(), "y", "w y :c"},
		row{rdeps(), "u", "u w :c"},
		// Files that nobody reads.
		row{rdeps(), "w", "w"},
		row{rdeps(), "z", "z"},
		row{rdeps(), "v", "v"},
	)
}

func TestRdepsOfSeveral(t *testing.T) {
	wantRows(t, rulesOf(t, example),
		row{rdeps(), "z v", "v z"},
		row{rdeps(), "u v", "u v w :c"},
		row{rdeps(), ":d z u", "u v w z :c :d"},
		// One is reached from another.
		row{rdeps(), "y w", "w y :c"},
		row{rdeps(), "s x :b", "s w x y z :a :b :c"},
		// One is said twice.
		row{rdeps(), "v v", "v"},
		row{rdeps(), ":c :c u", "u w :c"},
	)
}

// A source that many rules read, some of them what others make.
func TestRdepsOfASourceOfMany(t *testing.T) {
	wantRows(t, rulesOf(t, `rule d { in s, t; out m; m = copy s; }
rule c { in m, s; out n; n = concat m s; }
rule a { in s, m; out o, o2; o = concat; o2 = concat; }
rule b { in s, r; out p; p = copy s; }
rule e { in r; out q; q = copy r; }`),
		row{rdeps(), "s", "m n o o2 p s :a :b :c :d"},
		row{rdeps(), "r", "p q r :b :e"},
		row{rdeps(), "t", "m n o o2 t :a :c :d"},
		row{rdeps(), "m", "m n o o2 :a :c"},
		row{deps(-1), "o2", "m o2 s t :a :d"},
		row{cone(), "n q", "c d e"},
	)
}

func TestConeOfFiles(t *testing.T) {
	wantRows(t, rulesOf(t, example),
		row{cone(), "x", "a"},
		row{cone(), "v", "d"},
		row{cone(), "y", "a b"},
		row{cone(), "z v", "a b d"},
		row{cone(), "w v", "a b c d"},
		// Sources.
		row{cone(), "s", ""},
		row{cone(), "s u", ""},
		row{cone(), "s v", "d"},
		// Files that there are not; the rules a, b and d are none.
		row{cone(), "none", ""},
		row{cone(), "a", ""},
		row{cone(), "a b d", ""},
		row{cone(), ":c", ""},
		row{cone(), "none v a", "d"},
		// Files of one rule, and files said twice.
		row{cone(), "y z", "a b"},
		row{cone(), "y y", "a b"},
		row{cone(), "z y z y", "a b"},
		row{cone(), "w x y", "a b c"},
	)
}

func TestNoLabels(t *testing.T) {
	for _, g := range []*graph.Graph{graphOf(t, rulesOf(t, example)), graphOf(t, nil), {}, nil} {
		for _, c := range []call{deps(-1), deps(0), deps(1), deps(99), rdeps(), cone()} {
			wantAnswer(t, g, c, nil, nil)
			wantAnswer(t, g, c, []string{}, nil)
		}
		if len(order.Deps(g, -1)) > 0 || len(order.Rdeps(g)) > 0 || len(order.Cone(g)) > 0 {
			t.Error("P14.1: what is reached of no labels is not empty")
		}
	}
}

// The rules have no file a and no rule x.
func TestLabelsThatTheGraphHasNot(t *testing.T) {
	rs := rulesOf(t, example)
	for _, none := range strings.Fields("none :none a :x :s S :A ::a aa w/ in :rule") {
		for _, c := range []call{deps(-1), deps(0), deps(1), rdeps()} {
			wantRows(t, rs, row{c, none, ""}, row{c, none + " q :q", ""})
		}
		wantRows(t, rs, row{deps(0), none + " v", "v"}, row{deps(1), none + " v", "v :d"}, row{deps(-1), none + " :d s", "s :d"}, row{rdeps(), none + " y", "w y :c"})
	}
}

func TestNilGraph(t *testing.T) {
	for _, g := range []*graph.Graph{nil, graph.New(api.Rule{}), {}, graph.New()} {
		for _, c := range []call{deps(-1), deps(0), deps(1), deps(math.MaxInt), deps(math.MinInt), rdeps(), cone()} {
			for _, of := range []string{"w", ":c", "s u v w x y z :a :b :c :d", "w w"} {
				wantAnswer(t, g, c, strings.Fields(of), nil)
			}
		}
	}
}

// Files stand ahead of rules, and names are in the order of their bytes, wherever in the lists of rules they stand.
func TestAscending(t *testing.T) {
	rs := rulesOf(t, `rule b { in a/b, a.b, a-b, ab, aB, a, B, 9; out z9, z, Z, z10; z = concat; z9 = concat; Z = concat; z10 = concat; }
rule B { in z10, z, z9, Z; out -; - = concat z z; }
rule 10 { in z9, z10; out .a; .a = copy z9; }
rule 9 { in z10, Z, a; out _; _ = copy a; }`)
	wantRows(t, rs,
		row{deps(-1), "-", "- 9 B Z a a-b a.b a/b aB ab z z10 z9 :B :b"},
		row{deps(2), "_ .a -", "- .a Z _ a z z10 z9 :10 :9 :B"},
		row{deps(0), ":b :B B :9 9", "9 B :9 :B :b"},
		row{rdeps(), "a", "- .a Z _ a z z10 z9 :10 :9 :B :b"},
		row{cone(), "- _ .a", "10 9 B b"},
		row{cone(), "z10", "b"},
	)
	wantOrders(t, rs, "b 10 9 B", "b; 10 9 B")
}

// A rule and a file of one name are two labels.
func TestRuleAndFileOfOneName(t *testing.T) {
	rs := rulesOf(t, `rule a { in b; out c; c = copy b; }
rule b { in c, d; out a; a = copy c; }
rule c { in a; out e; e = copy a; }
rule e { in e; out f; f = copy e; }`)
	wantRows(t, rs,
		row{deps(-1), "a", "a b c d :a :b"},
		row{deps(-1), ":a", "b :a"},
		row{deps(-1), "c", "b c :a"},
		row{deps(1), ":c c", "a c :a :c"},
		row{deps(0), ":a a", "a :a"},
		row{deps(0), ":f :d b", "b"},
		row{rdeps(), "b", "a b c e f :a :b :c :e"},
		row{rdeps(), ":b", "a e f :b :c :e"},
		row{rdeps(), "e", "e f :e"},
		row{rdeps(), ":e", "f :e"},
		row{cone(), "a", "a b"},
		row{cone(), "b", ""},
		row{cone(), "c", "a"},
		row{cone(), "e", "a b c"},
	)
	wantOrders(t, rs, "a b c e", "a; b; c; e")
	// Here the rules would need each other if a name alone told which label is meant.
	wantOrders(t, rulesOf(t, `rule x { in y; out p; p = copy y; } rule y { in x; out q; q = copy x; }`), "x y", "x y")
}

// After counts for nothing in what labels need, and for all in the order of rules.
func TestAfter(t *testing.T) {
	rs := rulesOf(t, `rule c { in x; out w; after b, a; w = copy x; }
rule b { out v; after a; v = concat; }
rule a { in s; out x; x = copy s; }
rule d { in v; out u; after c, a; u = concat; }`)
	rows := []row{
		{deps(-1), "w", "s w x :a :c"},
		{deps(-1), "u", "u v :b :d"},
		{deps(-1), ":b", ":b"},
		{deps(1), "v :d", "v :b :d"},
		{rdeps(), "s", "s w x :a :c"},
		{rdeps(), ":a", "w x :a :c"},
		{rdeps(), ":c", "w :c"},
		{cone(), "w", "a c"},
		{cone(), "u", "b d"},
		{cone(), "v", "b"},
	}
	wantRows(t, rs, rows...)
	wantOrders(t, rs, "a b c d", "a; b; c; d")
	for i := range rs {
		rs[i].After = nil
	}
	wantRows(t, rs, rows...)
	wantOrders(t, rs, "a b c d", "a b; c d")
}

// What steps do is no matter of needs: an In that none reads is needed, and a file of a step alone is not made.
func TestSteps(t *testing.T) {
	rs := rulesOf(t, `rule b { in p, q; out x; t = copy p; x = copy t; dead = sort t; }
rule a { in t, x; out y; y = copy t; }
rule c { in u; out t2; t2 = copy u; t = copy u; }`)
	wantRows(t, rs,
		row{deps(-1), "y", "p q t x y :a :b"},
		row{deps(-1), "t", "t"},
		row{deps(-1), "dead t2", "t2 u :c"},
		row{rdeps(), "q", "q x y :a :b"},
		row{rdeps(), "u", "t2 u :c"},
		row{cone(), "t dead", ""},
		row{cone(), "y", "a b"},
	)
	wantOrders(t, rs, "b a c", "b c; a")
}

// wantRules fails unless Rules of rs is want.
func wantRules(t *testing.T, rs []api.Rule, want []string) {
	t.Helper()
	if got := order.Rules(rs); !slices.Equal(got, want) {
		t.Errorf("P14.1: Rules of %s = %q, not %q", toldRules(rs), got, want)
	}
}

// wantLevels fails unless Levels of rs is want.
func wantLevels(t *testing.T, rs []api.Rule, want [][]string) {
	t.Helper()
	if got := order.Levels(rs); !slices.EqualFunc(got, want, slices.Equal) {
		t.Errorf("P14.1: Levels of %s = %q, not %q", toldRules(rs), got, want)
	}
}

// levelsOf returns the levels of s, which has semicolons between them.
func levelsOf(s string) [][]string {
	var levels [][]string
	for _, level := range strings.Split(s, ";") {
		levels = append(levels, strings.Fields(level))
	}
	return levels
}

// wantOrders fails unless Rules and Levels are the words of rules and the levels of levels, whatever the order of rs.
func wantOrders(t *testing.T, rs []api.Rule, rules, levels string) {
	t.Helper()
	ordersOf(rs, func(rs []api.Rule) {
		t.Helper()
		wantRules(t, rs, strings.Fields(rules))
		wantLevels(t, rs, levelsOf(levels))
	})
}

func TestOrders(t *testing.T) {
	for _, x := range []struct{ what, text, rules, levels string }{
		{"one rule", `rule r { in s; out a; a = copy s; }`, "r", "r"},
		{"rules that need none", `rule c { out x; x = concat; } rule a { in s; out y; y = concat; } rule d { in s; out z; z = concat; } rule b { out w; w = concat; }`,
			"a b c d", "a b c d"},
		{"a chain by Ins", `rule a { in x; out y; y = copy x; } rule b { in w; out x; x = copy w; } rule c { in v; out w; w = copy v; } rule d { in s; out v; v = copy s; }`,
			"d c b a", "d; c; b; a"},
		{"a chain by After", `rule a { out y; after b; y = concat; } rule b { out x; after c; x = concat; } rule c { out w; after d; w = concat; } rule d { out v; v = concat; }`,
			"d c b a", "d; c; b; a"},
		{"a chain by both in turn", `rule a { in x; out y; y = copy x; } rule b { out x; after c; x = concat; } rule c { in v; out w; w = copy v; } rule d { out v; v = concat; }`,
			"d c b a", "d; c; b; a"},
		{"one rule needed twice, by Ins and by After", `rule a { in x, y; out z; after b; z = concat x y; } rule b { out x, y; x = concat; y = concat; } rule c { in s; out w; w = copy s; }`,
			"b a c", "b c; a"},
		{"a lesser rule that becomes ready late", `rule a { in x; out y; y = copy x; } rule c { out x; x = concat; } rule d { out w; w = concat; } rule b { out v; after d; v = concat; }`,
			"c a d b", "c d; a b"},
		{"a greater rule that is ready ahead of a lesser one", `rule z { in s; out a; a = copy s; } rule y { in a; out b; b = copy a; } rule x { in b; out c; c = copy b; } rule w { out d; after x; d = concat; } rule zz { out e; e = concat; }`,
			"z y x w zz", "z zz; y; x; w"},
		{"needs of several levels, by Ins", `rule a { in s, w, x, y; out z; z = copy s; } rule b { in w; out x; x = copy w; } rule c { out w; w = concat; } rule d { in x; out y; y = copy x; }`,
			"c b d a", "c; b; d; a"},
		{"needs of several levels, by After", `rule a { out z; after d, b, c; z = concat; } rule b { out x; after c; x = concat; } rule c { out w; w = concat; } rule d { out y; after b; y = concat; }`,
			"c b d a", "c; b; d; a"},
		{"the last need by After alone", `rule e { in w; out z; after d; z = copy w; } rule c { out w; w = concat; } rule d { out y; after b; y = concat; } rule b { in w; out x; x = copy w; } rule a { in w, s; out v; v = copy w; }`,
			"c a b d e", "c; a b; d; e"},
		{"the last need by an In alone", `rule e { in y; out z; after c; z = copy y; } rule c { out w; w = concat; } rule d { in x; out y; y = copy x; } rule b { out x; after c; x = concat; }`,
			"c b d e", "c; b; d; e"},
		{"two that meet", `rule a { in x, y; out z; z = concat x y; } rule b { in s; out x; x = copy s; } rule c { in s; out y; after d; y = copy s; } rule d { out w; w = concat; }`,
			"b d c a", "b d; c; a"},
		{"names in the order of their bytes", `rule ab { out p1; p1 = concat; } rule a/b { out p2; p2 = concat; } rule a.b { out p3; p3 = concat; } rule B { out p4; p4 = concat; } rule 9 { out p5; p5 = concat; } rule 10 { out p6; p6 = concat; }`,
			"10 9 B a.b a/b ab", "10 9 B a.b a/b ab"},
	} {
		t.Run(x.what, func(t *testing.T) { wantOrders(t, rulesOf(t, x.text), x.rules, x.levels) })
	}
}

func TestNoRules(t *testing.T) {
	for _, rs := range [][]api.Rule{nil, {}, make([]api.Rule, 0, 3)} {
		wantRules(t, rs, nil)
		wantLevels(t, rs, nil)
	}
}

// manyRules returns n rules r00, r01 and so on, each of which makes a file o00, o01 and so on, of nothing.
func manyRules(n int) []api.Rule {
	var rs []api.Rule
	for i := range n {
		out := fmt.Sprintf("o%02d", i)
		rs = append(rs, api.Rule{Name: fmt.Sprintf("r%02d", i), Outs: []string{out}, Steps: []api.Step{{Out: out, Op: api.CConcat}}})
	}
	return rs
}

// refused returns lists of rules that check.All does not accept, and why, most of them with rules that alone are good.
func refused(t *testing.T) map[string][]api.Rule {
	t.Helper()
	good := func(text string) []api.Rule {
		return rulesOf(t, `rule good { in s; out x; x = copy s; } rule good2 { in x; out y; after good; y = copy x; } `+text)
	}
	faulty := func(fault func(*api.Rule)) []api.Rule {
		rs := good(`rule r { out a; a = concat; }`)
		fault(&rs[2])
		return rs
	}
	return map[string][]api.Rule{
		"ErrForm, one empty rule":    {{}},
		"ErrForm, no Outs":           faulty(func(r *api.Rule) { r.Outs = nil }),
		"ErrForm, a name":            faulty(func(r *api.Rule) { r.Name = "in" }),
		"ErrForm, a step":            faulty(func(r *api.Rule) { r.Steps[0].N = 1 }),
		"ErrMost, nine Ins":          good(`rule r { in a, b, c, d, e, f, g, h, i; out o; o = concat; }`),
		"ErrMost, 41 rules":          manyRules(api.MaxRules + 1),
		"ErrName, an In twice":       good(`rule r { in a, a; out o; o = concat; }`),
		"ErrName, After itself":      good(`rule r { out o; after r; o = concat; }`),
		"ErrName, Out of no step":    good(`rule r { out a; }`),
		"ErrName, a name twice":      good(`rule good { out a; a = concat; }`),
		"ErrName, a rule twice":      good(`rule good { in s; out x; x = copy s; }`),
		"ErrName, a file twice":      good(`rule r { in s; out x; x = copy s; }`),
		"ErrName, After of none":     good(`rule r { out a; after none; a = concat; }`),
		"ErrCycle, by Ins":           good(`rule r { in a; out b; b = concat; } rule u { in b; out a; a = concat; }`),
		"ErrCycle, by After":         good(`rule r { out a; after u; a = concat; } rule u { out b; after r; b = concat; }`),
		"ErrCycle, by both":          good(`rule r { in b; out a; a = concat; } rule u { out b; after r; b = concat; }`),
		"ErrCycle, of all the rules": rulesOf(t, `rule r { in a; out b; b = concat; } rule u { in b; out c; c = concat; } rule v { in c; out a; a = concat; }`),
	}
}

func TestRulesThatAreRefused(t *testing.T) {
	codes := map[string]api.Errno{"ErrForm": api.ErrForm, "ErrMost": api.ErrMost, "ErrName": api.ErrName, "ErrCycle": api.ErrCycle}
	for why, rs := range refused(t) {
		wanted, _, _ := strings.Cut(why, ",")
		if code, _ := check.All(rs); code != codes[wanted] {
			t.Fatalf("%s: check.All = %d", why, code)
		}
		for range 2 {
			if got := order.Rules(rs); got != nil {
				t.Errorf("P14.1: Rules of rules with %s = %q, not nil", why, got)
			}
			if got := order.Levels(rs); got != nil {
				t.Errorf("P14.1: Levels of rules with %s = %q, not nil", why, got)
			}
			slices.Reverse(rs)
		}
	}
}

// namesOf returns the names of the rules, in their order.
func namesOf(rs []api.Rule) []string {
	var names []string
	for _, r := range rs {
		names = append(names, r.Name)
	}
	return names
}

// each returns a level of its own for each of the names.
func each(names []string) [][]string {
	var levels [][]string
	for _, name := range names {
		levels = append(levels, []string{name})
	}
	return levels
}

// As many rules as may be: none needs another, each needs the next one by an In or by After, and each needs the first.
func TestFortyRules(t *testing.T) {
	rnd := rand.New(rand.NewPCG(14, 1))
	free := manyRules(api.MaxRules)
	ins, after, first := manyRules(api.MaxRules), manyRules(api.MaxRules), manyRules(api.MaxRules)
	for i := range api.MaxRules - 1 {
		ins[i].Ins = []string{"s", free[i+1].Outs[0]}
		after[i].After = []string{free[i+1].Name}
		if i%2 == 0 {
			first[i].After = []string{"r39"}
		} else {
			first[i].Ins = []string{"o39"}
		}
	}
	up := namesOf(free)
	down := slices.Clone(up)
	slices.Reverse(down)
	for range 20 {
		wantRules(t, mixed(rnd, free), up)
		wantLevels(t, mixed(rnd, free), [][]string{up})
		for _, chain := range [][]api.Rule{ins, after} {
			wantRules(t, mixed(rnd, chain), down)
			wantLevels(t, mixed(rnd, chain), each(down))
		}
		wantRules(t, mixed(rnd, first), append([]string{"r39"}, up[:39]...))
		wantLevels(t, mixed(rnd, first), [][]string{{"r39"}, up[:39]})
	}
	g := graphOf(t, ins)
	wantAnswer(t, g, cone(), []string{"o00"}, up)
	wantAnswer(t, g, cone(), []string{"o30"}, up[30:])
	for far, want := range map[int]int{0: 1, 1: 2, 2: 4, 3: 5, 77: 79, 78: 80, 79: 81, -1: 81} {
		if got := order.Deps(g, far, file("o00")); len(got) != want {
			t.Errorf("P14.1: Deps, %d, of the end of a chain has %d labels, not %d", far, len(got), want)
		}
	}
	if got := order.Rdeps(g, file("o39")); len(got) != 79 {
		t.Errorf("P14.1: Rdeps of the beginning of a chain has %d labels", len(got))
	}
}

// Ways through many rules are far more than there are labels; each label is followed once all the same.
func TestVeryManyWays(t *testing.T) {
	rs := manyRules(api.MaxRules)
	for i := range rs {
		for j := max(0, i-api.MaxIns); j < i; j++ {
			rs[i].Ins = append(rs[i].Ins, rs[j].Outs[0])
			rs[i].After = append(rs[i].After, rs[j].Name)
		}
	}
	g, names := graphOf(t, rs), namesOf(rs)
	wantAnswer(t, g, cone(), []string{"o39"}, names)
	for _, far := range []int{-1, 79, math.MaxInt} {
		if got := order.Deps(g, far, file("o39")); len(got) != 80 {
			t.Errorf("P14.1: Deps, %d, has %d labels", far, len(got))
		}
	}
	if got := order.Rdeps(g, rule("r00")); len(got) != 80 {
		t.Errorf("P14.1: Rdeps has %d labels", len(got))
	}
	slices.Reverse(rs)
	wantRules(t, rs, names)
	wantLevels(t, rs, each(names))
}

// Labels, numbers and rules beyond all that is sound are no reason to panic or to go on for ever.
func TestBeyondAll(t *testing.T) {
	g := graphOf(t, rulesOf(t, example))
	for _, name := range []string{"", " ", "w ", "\x00", "\xff", "ö", ":w", "::c", "./w", "..", "in", strings.Repeat("w/", 1<<20)} {
		for _, far := range []int{math.MinInt, -1, 0, 1, math.MaxInt} {
			if got := wordsOf(order.Deps(g, far, file(name), rule(name), file("u"))); !slices.Equal(got, []string{"u"}) {
				t.Errorf("P14.1: Deps, %d, of labels of %.50q and of u = %.300q", far, name, got)
			}
		}
		if got := wordsOf(order.Rdeps(g, file(name), file("v"), rule(name))); !slices.Equal(got, []string{"v"}) {
			t.Errorf("P14.1: Rdeps of labels of %.50q and of v = %.300q", name, got)
		}
		wantAnswer(t, g, cone(), []string{name, "v"}, []string{"d"})
	}
	wantAnswer(t, g, deps(1), slices.Repeat([]string{"w", "none", ":c"}, 1<<17), strings.Fields("u w y :c"))
	wantAnswer(t, g, rdeps(), slices.Repeat([]string{"y", ":none"}, 1<<17), strings.Fields("w y :c"))
	wantAnswer(t, g, cone(), slices.Repeat([]string{"z", "a"}, 1<<17), strings.Fields("a b"))
	self := api.Rule{Name: "r", Ins: []string{"a"}, Outs: []string{"a"}, Steps: []api.Step{{Out: "a", Op: api.CCopy, Args: []string{"a"}}}}
	for _, rs := range [][]api.Rule{
		{self}, make([]api.Rule, 1<<18), slices.Repeat([]api.Rule{self}, 1<<14), {{Name: "r", After: make([]string, 1<<18), Outs: []string{"a"}}},
		{{Name: "r", Outs: []string{"a"}, Steps: []api.Step{{Out: "a", Op: math.MinInt, N: math.MinInt}}}},
	} {
		if order.Rules(rs) != nil || order.Levels(rs) != nil {
			t.Errorf("P14.1: Rules or Levels of %s are not nil", toldRules(rs))
		}
	}
}

// room returns a copy of l with spare room, in which more stands.
func room[E any](l []E, more E) []E {
	all := append(make([]E, 0, len(l)+3), l...)
	return append(all, more, more, more)[:len(l)]
}

// listsOf returns all lists of names and of strings in r.
func listsOf(r *api.Rule) []*[]string {
	all := []*[]string{&r.Ins, &r.Outs, &r.After}
	for i := range r.Steps {
		all = append(all, &r.Steps[i].Args, &r.Steps[i].Lits)
	}
	return all
}

// roomy returns copies of the rules, whose lists all have spare room, in which spare stands.
func roomy(rs []api.Rule, spare string) []api.Rule {
	rs = room(rs, api.Rule{Name: spare, Outs: []string{spare}})
	for i := range rs {
		rs[i].Steps = room(rs[i].Steps, api.Step{Out: spare, Args: []string{spare}})
		for _, l := range listsOf(&rs[i]) {
			*l = room(*l, spare)
		}
	}
	return rs
}

// spread returns a deep copy of the rules, with what stands in the spare room of their lists.
func spread(rs []api.Rule) []api.Rule {
	rs = slices.Clone(rs[:cap(rs)])
	for i := range rs {
		rs[i].Steps = slices.Clone(rs[i].Steps[:cap(rs[i].Steps)])
		for _, l := range listsOf(&rs[i]) {
			*l = slices.Clone((*l)[:cap(*l)])
		}
	}
	return rs
}

// spoil writes into all of l, its spare room among that.
func spoil[E any](l []E, with E) {
	l = l[:cap(l)]
	for i := range l {
		l[i] = with
	}
}

// spoilLevels writes into all of levels, and into each of them, their spare room among that.
func spoilLevels(levels [][]string) {
	for _, level := range levels {
		spoil(level, "changed")
	}
	spoil(levels, []string{"changed"})
}

// Neither labels, files or rules that are passed in, nor the spare room of any list of theirs, change.
func TestWhatIsPassedInStays(t *testing.T) {
	g := graphOf(t, rulesOf(t, example))
	for _, words := range []string{"", "w", "w v s", "z z y", ":c x none :d", "none :none", ":d :c :b :a z y x w v u s"} {
		ls := room(labelsOf(strings.Fields(words)), rule("b"))
		files := room(strings.Fields(words), "w")
		wereLabels, wereFiles := slices.Clone(ls[:cap(ls)]), slices.Clone(files[:cap(files)])
		for _, far := range []int{-1, 0, 1, 2, 99} {
			spoil(order.Deps(g, far, ls...), file("changed"))
		}
		spoil(order.Rdeps(g, ls...), file("changed"))
		spoil(order.Cone(g, files...), "changed")
		if got := ls[:cap(ls)]; !slices.Equal(got, wereLabels) {
			t.Errorf("P14.1: the labels %q changed to %q", wordsOf(wereLabels), wordsOf(got))
		}
		if got := files[:cap(files)]; !slices.Equal(got, wereFiles) {
			t.Errorf("P14.1: the files %q changed to %q", wereFiles, got)
		}
	}
	all := refused(t)
	all["accepted"] = rulesOf(t, example)
	for name, rs := range all {
		slices.Reverse(rs)
		rs = roomy(rs, "spare")
		were := spread(rs)
		spoil(order.Rules(rs), "changed")
		spoilLevels(order.Levels(rs))
		if got := spread(rs); !reflect.DeepEqual(got, were) {
			t.Errorf("P14.1: with rules %s, Rules or Levels changed them to %s", name, toldRules(got))
		}
	}
}

// What stands in the spare room of a list is not read, and an answer turns with nothing that was passed in.
func TestWhatIsPassedInIsNotKept(t *testing.T) {
	g := graphOf(t, rulesOf(t, example))
	ls, files := room(labelsOf([]string{"z", ":d", "s"}), file("w")), room([]string{"z", "s", "v"}, "w")
	near, far, back, names := order.Deps(g, 0, ls...), order.Deps(g, -1, ls...), order.Rdeps(g, ls...), order.Cone(g, files...)
	rs := roomy(rulesOf(t, example), "a")
	rules, levels := order.Rules(rs), order.Levels(rs)
	spoil(ls, file("changed"))
	spoil(files, "changed")
	for i := range rs {
		for _, l := range listsOf(&rs[i]) {
			spoil(*l, "changed")
		}
	}
	spoil(rs, api.Rule{})
	for _, x := range []struct {
		got  []string
		want string
	}{
		{wordsOf(near), "s z :d"}, {wordsOf(far), "s x z :a :b :d"}, {wordsOf(back), "s v w x y z :a :b :c :d"}, {names, "a b d"}, {rules, "a b d c"},
	} {
		if !slices.Equal(x.got, strings.Fields(x.want)) {
			t.Errorf("P14.1: an answer is %q, not %q", x.got, x.want)
		}
	}
	if want := levelsOf("a; b d; c"); !slices.EqualFunc(levels, want, slices.Equal) {
		t.Errorf("P14.1: an answer is %q, not %q", levels, want)
	}
}

// wantOwn fails unless answers of one call share nothing: one that is changed, also in its spare room, turns no other one, earlier or later.
func wantOwn[E comparable](t *testing.T, what string, with E, call func() []E) {
	t.Helper()
	was := slices.Clone(call())
	earlier, changed, later := call(), call(), call()
	spoil(changed, with)
	for _, other := range [][]E{earlier, later, call()} {
		if !slices.Equal(other, was) {
			t.Errorf("P14.1: an answer of %s beside one that was changed is %v, not %v", what, other, was)
		}
	}
}

func TestAnswersAreTheCallersOwn(t *testing.T) {
	rs := rulesOf(t, example)
	g := graphOf(t, rs)
	all := g.All()
	for i := range all {
		ls := room(all[i:], rule("a"))
		for _, far := range []int{-1, 0, 1, 2, 99} {
			wantOwn(t, "Deps", file("changed"), func() []api.Label { return order.Deps(g, far, ls...) })
		}
		wantOwn(t, "Rdeps", file("changed"), func() []api.Label { return order.Rdeps(g, ls...) })
	}
	for _, files := range [][]string{nil, {"w"}, {"v", "w"}, {"s"}} {
		wantOwn(t, "Cone", "changed", func() []string { return order.Cone(g, files...) })
	}
	wantOwn(t, "Rules", "changed", func() []string { return order.Rules(rs) })
	for i := range order.Levels(rs) {
		wantOwn(t, "Levels", "changed", func() []string { return order.Levels(rs)[i] })
	}
	// The graph, too, tells what it told.
	if got := g.All(); !slices.Equal(got, all) {
		t.Errorf("P14.1: a graph turned to one of %q", wordsOf(got))
	}
	for _, l := range all {
		fresh := graphOf(t, rs)
		if !slices.Equal(g.Needs(l), fresh.Needs(l)) || !slices.Equal(g.Users(l), fresh.Users(l)) {
			t.Errorf("P14.1: a graph tells of %q that it needs %q and is needed by %q", wordsOf([]api.Label{l}), wordsOf(g.Needs(l)), wordsOf(g.Users(l)))
		}
	}
}

// Each level may be changed and grown alone.
func TestLevelsShareNothing(t *testing.T) {
	rs := rulesOf(t, example+` rule e { out q; q = concat; } rule f { out r; after c; r = concat; }`)
	want := levelsOf("a e; b d; c; f")
	for i := range want {
		levels, other := order.Levels(rs), order.Levels(rs)
		spoil(levels[i], "changed")
		for j := range want {
			if j != i && !slices.Equal(levels[j], want[j]) {
				t.Errorf("P14.1: level %d turned to %q when level %d was changed", j, levels[j], i)
			}
		}
		spoilLevels(levels)
		if !slices.EqualFunc(other, want, slices.Equal) {
			t.Errorf("P14.1: Levels turned to %q when other ones were changed", other)
		}
		wantLevels(t, rs, want)
	}
}

// needsOf returns whatever label l needs, as chapter 13 tells it.
func needsOf(rs []api.Rule, l api.Label) []api.Label {
	var needs []api.Label
	for _, r := range rs {
		if l == rule(r.Name) {
			for _, in := range r.Ins {
				needs = append(needs, file(in))
			}
		}
		if !l.Rule && slices.Contains(r.Outs, l.Name) {
			needs = append(needs, rule(r.Name))
		}
	}
	return needs
}

// allOf returns all labels of the rules in ascending order, as chapters 12 and 13 tell it.
func allOf(rs []api.Rule) []api.Label {
	var files, names []string
	for _, r := range rs {
		files = slices.Concat(files, r.Ins, r.Outs)
		names = append(names, r.Name)
	}
	slices.Sort(files)
	slices.Sort(names)
	var all []api.Label
	for _, name := range slices.Compact(files) {
		all = append(all, file(name))
	}
	for _, name := range names {
		all = append(all, rule(name))
	}
	return all
}

// distances returns for each of the labels of the rules how long the shortest chain of needs from l to it is, where there is one.
func distances(rs []api.Rule, l api.Label) map[api.Label]int {
	far := map[api.Label]int{l: 0}
	var walk func(at api.Label, steps int)
	walk = func(at api.Label, steps int) {
		for _, next := range needsOf(rs, at) {
			if least, is := far[next]; !is || steps < least {
				far[next] = steps
				walk(next, steps+1)
			}
		}
	}
	walk(l, 1)
	return far
}

// naive answers Deps, Rdeps and Cone by the chapter's words taken label by label.
type naive struct {
	rs   []api.Rule
	all  []api.Label
	from map[api.Label]map[api.Label]int
}

func naiveOf(rs []api.Rule) naive {
	n := naive{rs, allOf(rs), make(map[api.Label]map[api.Label]int)}
	for _, l := range n.all {
		n.from[l] = distances(rs, l)
	}
	return n
}

func (n naive) deps(far int, ls []api.Label) []string {
	return n.those(func(l api.Label) bool {
		return slices.ContainsFunc(ls, func(from api.Label) bool {
			steps, is := n.from[from][l]
			return is && (far < 0 || steps <= far)
		})
	})
}

func (n naive) rdeps(ls []api.Label) []string {
	return n.those(func(l api.Label) bool {
		return slices.ContainsFunc(ls, func(to api.Label) bool {
			_, is := n.from[l][to]
			return is
		})
	})
}

func (n naive) cone(files []string) []string {
	var names []string
	for _, l := range n.all {
		if l.Rule && slices.ContainsFunc(files, func(name string) bool { return slices.Contains(n.deps(-1, []api.Label{file(name)}), ":"+l.Name) }) {
			names = append(names, l.Name)
		}
	}
	return names
}

// those returns the words of the labels that fit.
func (n naive) those(fits func(api.Label) bool) []string {
	var ls []api.Label
	for _, l := range n.all {
		if fits(l) {
			ls = append(ls, l)
		}
	}
	return wordsOf(ls)
}

// needs reports whether rule r needs rule other, as chapter 10 tells it.
func needs(r, other api.Rule) bool {
	return slices.Contains(r.After, other.Name) || slices.ContainsFunc(r.Ins, func(in string) bool { return slices.Contains(other.Outs, in) })
}

// wantFit fails unless Rules of rs is what the chapter says of it: all rules, each behind those that it needs, and each
// the least one of those that could stand in its place.
func wantFit(t *testing.T, rs []api.Rule) {
	t.Helper()
	names := order.Rules(rs)
	byName := make(map[string]api.Rule)
	for _, r := range rs {
		byName[r.Name] = r
	}
	if len(names) != len(rs) || !slices.Equal(slices.Sorted(slices.Values(names)), slices.Sorted(slices.Values(namesOf(rs)))) {
		t.Errorf("P14.1: Rules of %s = %q", toldRules(rs), names)
		return
	}
	for i := range names {
		rest := names[i:]
		for _, name := range rest {
			waits := slices.ContainsFunc(rest, func(other string) bool { return needs(byName[name], byName[other]) })
			if name == names[i] && waits || name < names[i] && !waits {
				t.Errorf("P14.1: Rules of %s = %q, in which %q is at %d", toldRules(rs), names, names[i], i)
			}
		}
	}
}

// naiveLevels is what Levels of the rules is to be, by the chapter's words taken rule by rule.
func naiveLevels(rs []api.Rule) [][]string {
	known := make(map[string]int)
	var levelOf func(r api.Rule) int
	levelOf = func(r api.Rule) int {
		if level, is := known[r.Name]; is {
			return level
		}
		level := 0
		for _, other := range rs {
			if needs(r, other) {
				level = max(level, levelOf(other)+1)
			}
		}
		known[r.Name] = level
		return level
	}
	levels := make([][]string, len(rs))
	for _, r := range rs {
		at := levelOf(r)
		levels[at] = append(levels[at], r.Name)
	}
	for _, level := range levels {
		slices.Sort(level)
	}
	return slices.DeleteFunc(levels, func(level []string) bool { return len(level) == 0 })
}

// mixed returns a copy of l in any order.
func mixed[E any](rnd *rand.Rand, l []E) []E {
	l = slices.Clone(l)
	rnd.Shuffle(len(l), func(i, j int) { l[i], l[j] = l[j], l[i] })
	return l
}

// some returns at most n elements of l, in any order.
func some[E any](rnd *rand.Rand, l []E, n int) []E {
	return mixed(rnd, l)[:min(len(l), rnd.IntN(n+1))]
}

// anyRules returns at most n rules that check.All accepts; rules, files, and files of steps alone often have one name.
func anyRules(rnd *rand.Rand, n int) []api.Rule {
	var names []string
	for _, name := range strings.Fields("a b c d e f g h A B 0 1 9 z zz _ x y") {
		names = append(names, name, name+"/b", name+"0", name+".o", name+"-")
	}
	files := mixed(rnd, names)
	sources := 1 + rnd.IntN(8)
	known, files := files[:sources:sources], files[sources:]
	most := 1 + rnd.IntN(4)
	var rs []api.Rule
	for _, name := range some(rnd, names, n) {
		outs := 1 + rnd.IntN(min(2, len(files)))
		// Ins and After of what is there so far, so that there is no cycle.
		r := api.Rule{Name: name, Ins: some(rnd, known, most), Outs: files[:outs:outs]}
		made := r.Outs
		if alone := names[rnd.IntN(len(names))]; !slices.Contains(r.Ins, alone) && !slices.Contains(r.Outs, alone) {
			made = append([]string{alone}, made...)
		}
		for _, out := range made {
			r.Steps = append(r.Steps, api.Step{Out: out, Op: api.CConcat, Args: some(rnd, r.Ins, 4)})
		}
		if rnd.IntN(2) == 0 {
			r.After = some(rnd, namesOf(rs), most)
		}
		rs, known, files = append(rs, r), append(known, r.Outs...), files[outs:]
	}
	return mixed(rnd, rs)
}

// Made-up rules, against the chapter's words.
func TestAnyRules(t *testing.T) {
	rules, levels, reached := 0, 0, 0
	for seed := range uint64(1500) {
		rnd := rand.New(rand.NewPCG(14, seed))
		rs := anyRules(rnd, 12)
		if code, name := check.All(rs); code != api.OK {
			t.Fatalf("check.All of %s = %d, %q", toldRules(rs), code, name)
		}
		wantFit(t, roomy(rs, "spare"))
		want := naiveLevels(rs)
		wantLevels(t, roomy(rs, "spare"), want)
		rules, levels = rules+len(rs), levels+len(want)
		g, n := graphOf(t, rs), naiveOf(rs)
		for range 8 {
			ls := append(some(rnd, n.all, 4), some(rnd, labelsOf(strings.Fields("a b :a :b none :none c/b :c/b")), 2)...)
			far := rnd.IntN(12) - 2
			wantAnswer(t, g, deps(far), wordsOf(ls), n.deps(far, ls))
			wantAnswer(t, g, rdeps(), wordsOf(ls), n.rdeps(ls))
			files := wordsOf(ls)
			wantAnswer(t, g, cone(), files, n.cone(files))
			reached += len(n.deps(-1, ls)) + len(n.rdeps(ls))
		}
		if t.Failed() {
			t.Fatalf("the rules: %+v", rs)
		}
	}
	if rules < 7000 || levels < 3000 || reached < 100000 {
		t.Errorf("the made-up rules are lopsided: %d rules, %d levels, %d labels reached", rules, levels, reached)
	}
}

// As many made-up rules as may be.
func TestAnyFortyRules(t *testing.T) {
	deepest := 0
	for seed := range uint64(150) {
		rnd := rand.New(rand.NewPCG(41, seed))
		rs := manyRules(api.MaxRules)
		for i, r := range mixed(rnd, rs) {
			if i > 0 {
				before := rs[max(0, i-1-rnd.IntN(12)):i]
				r.After = some(rnd, namesOf(before), 3)
				for _, other := range some(rnd, before, 3) {
					r.Ins = append(r.Ins, other.Outs[0])
				}
			}
			rs[i] = r
		}
		rs = mixed(rnd, rs)
		want := naiveLevels(rs)
		wantFit(t, rs)
		wantLevels(t, rs, want)
		deepest = max(deepest, len(want))
	}
	if deepest < 15 {
		t.Errorf("the made-up rules have at most %d levels", deepest)
	}
}
