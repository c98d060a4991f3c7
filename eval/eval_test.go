package eval_test

import (
	"fmt"
	"slices"
	"strings"
	"testing"

	"shipwright/api"
	"shipwright/ask"
	"shipwright/eval"
	"shipwright/graph"
	"shipwright/parse"
	"shipwright/scope"
)

// example is the rules of the chapter's example.
const example = `rule a { in s; out x; x = copy s; }
rule b { in x, s; out y, z; y = copy x; z = copy s; }
rule c { in y, u; out w; after d; w = copy y; }
rule d { out v; after a; v = concat; }`

// twins has rules and files of one name.
const twins = `rule x { in s; out a, x; a = copy s; x = copy s; }
rule a { in b, x; out y; y = copy x; }
rule s { in y, a; out t; t = concat y a; }`

// long has names of several parts.
const long = `rule build/main { in src/main.c, src/lib.h; out bin/main; bin/main = copy src/main.c; }
rule test.all { in bin/main, test/in; out test/out; test/out = copy test/in; }
rule lib { in src/lib.c, src/lib.h; out bin/lib.o, Main; bin/lib.o = copy src/lib.c; Main = concat; }`

// labelsOf returns the labels that words tell: one with a colon ahead a rule's, any other one a file's.
func labelsOf(words string) []api.Label {
	var ls []api.Label
	for _, word := range strings.Fields(words) {
		name, isRule := strings.CutPrefix(word, ":")
		ls = append(ls, api.Label{Rule: isRule, Name: name})
	}
	return ls
}

// told tells labels by words.
func told(ls []api.Label) string {
	var words []string
	for _, l := range ls {
		if l.Rule {
			words = append(words, ":"+l.Name)
		} else {
			words = append(words, l.Name)
		}
	}
	return strings.Join(words, " ")
}

// rulesOf returns the rules of a rule file.
func rulesOf(t *testing.T, text string) []api.Rule {
	t.Helper()
	rs, err := parse.File(text)
	if err.Code != api.OK {
		t.Fatalf("parse.File(%q) = %+v", text, err)
	}
	return rs
}

// graphOf returns the graph of rules, which is not nil.
func graphOf(t *testing.T, rs []api.Rule) *graph.Graph {
	t.Helper()
	g := graph.New(rs...)
	if g == nil {
		t.Fatalf("no graph of %.900s", fmt.Sprintf("%+v", rs))
	}
	return g
}

// parsed returns the query that s denotes.
func parsed(t *testing.T, s string) api.Query {
	t.Helper()
	q, err := ask.Parse(s)
	if err.Code != api.OK {
		t.Fatalf("ask.Parse(%q) = %+v", s, err)
	}
	return q
}

// show tells a query on one line, or the beginning of it.
func show(q api.Query) string { return fmt.Sprintf("%.700s", fmt.Sprintf("%+v", q)) }

// wantLabels fails unless Query of q is want, in this order, and no error.
func wantLabels(t *testing.T, g *graph.Graph, q api.Query, want []api.Label) {
	t.Helper()
	if got, err := eval.Query(g, q); err != (api.Err{}) || !slices.Equal(got, want) {
		t.Errorf("P19.1: Query of %s = %q, %+v, not %q", show(q), told(got), err, told(want))
	}
}

// wantError fails unless Query of q is nil and want.
func wantError(t *testing.T, g *graph.Graph, q api.Query, want api.Err) {
	t.Helper()
	if got, err := eval.Query(g, q); err != want || got != nil {
		t.Errorf("P19.1: Query of %s = %q, %+v, not %+v", show(q), told(got), err, want)
	}
}

// wantText fails unless Text of s, and Query of what s denotes, are want, in this order, and no error.
func wantText(t *testing.T, g *graph.Graph, s, want string) {
	t.Helper()
	if got, err := eval.Text(g, s); err != (api.Err{}) || !slices.Equal(got, labelsOf(want)) {
		t.Errorf("P19.1: Text of %q = %q, %+v, not %q", s, told(got), err, want)
	}
	wantLabels(t, g, parsed(t, s), labelsOf(want))
}

// wantTextError fails unless Text of s is nil and want.
func wantTextError(t *testing.T, g *graph.Graph, s string, want api.Err) {
	t.Helper()
	if got, err := eval.Text(g, s); err != want || got != nil {
		t.Errorf("P19.1: Text of %q = %q, %+v, not %+v", s, told(got), err, want)
	}
}

// ordersOf calls f with l in every order.
func ordersOf[E any](l []E, f func([]E)) {
	var place func(at int)
	place = func(at int) {
		if at == len(l) {
			f(slices.Clone(l))
			return
		}
		for i := at; i < len(l); i++ {
			l[at], l[i] = l[i], l[at]
			place(at + 1)
			l[at], l[i] = l[i], l[at]
		}
	}
	l = slices.Clone(l)
	place(0)
}

// row is a query and the labels that it denotes, in their order.
type row struct{ query, labels string }

// wantRows fails unless the queries denote what the rows say, whatever the order of the rules.
func wantRows(t *testing.T, text string, rows ...row) {
	t.Helper()
	ordersOf(rulesOf(t, text), func(rs []api.Rule) {
		t.Helper()
		g := graphOf(t, rs)
		for _, r := range rows {
			wantText(t, g, r.query, r.labels)
		}
	})
}

func TestExamples(t *testing.T) {
	wantRows(t, example,
		row{"deps(w, 1)", "w :c"},
		row{"rdeps(x) - deps(w)", "z"},
		row{"kind(source, deps(w) + v)", "s u"},
		row{"let a = x in let a = $a + y in $a", "x y"},
		row{"somepath(w, s)", "w :c y :b s"},
	)
	wantPrint(t, "b\n:a\n", labelsOf("b :a")...)
}

func TestLabel(t *testing.T) {
	for _, l := range strings.Fields("s u v w x y z :a :b :c :d") {
		wantRows(t, example, row{l, l}, row{"(" + l + ")", l})
	}
}

// The labels of a rule and of a file of one name are two.
func TestFilesAndRulesOfOneName(t *testing.T) {
	wantRows(t, twins,
		row{"x", "x"}, row{":x", ":x"}, row{"x + :x", "x :x"}, row{"x ^ :x", ""}, row{"x - :x", "x"}, row{":x - x", ":x"},
		row{"a + :x - x - :a", "a :x"}, row{"(x + :a) ^ (:x + a)", ""}, row{"(x + :a) ^ (:x + :a)", ":a"},
		row{"deps(a)", "a s :x"}, row{"deps(:a)", "b s x :a :x"}, row{"deps(:s, 1)", "a y :s"}, row{"deps(s)", "s"},
		row{"rdeps(x)", "t x y :a :s"}, row{"rdeps(:x)", "a t x y :a :s :x"}, row{"rdeps(a)", "a t :s"}, row{"rdeps(:a)", "t y :a :s"},
		row{"rdeps(s)", "a s t x y :a :s :x"}, row{"rdeps(:s)", "t :s"},
		row{"somepath(t, s)", "t :s a :x s"}, row{"somepath(t, x)", "t :s y :a x"}, row{"somepath(t, :x)", "t :s a :x"},
		row{"somepath(:s, s)", ":s a :x s"}, row{"somepath(s, :s)", ""}, row{"somepath(:a, a)", ""}, row{"somepath(:x, s)", ":x s"}, row{"somepath(x, :x)", "x :x"},
		row{"allpaths(t, x)", "t x y :a :s"}, row{"allpaths(t, :x)", "a t x y :a :s :x"}, row{"allpaths(:s, s)", "a s x y :a :s :x"}, row{"allpaths(x, :x)", "x :x"},
		row{"kind(rule, x + :x)", ":x"}, row{"kind(made, x + :x)", "x"}, row{"kind(source, s + :s)", "s"}, row{"kind(rule, all())", ":a :s :x"},
		row{"kind(made, all())", "a t x y"}, row{"kind(source, all())", "b s"},
		row{`filter("x", all())`, "x :x"}, row{`filter("a", all() - a)`, ":a"}, row{`filter("a", all() - :a)`, "a"}, row{`filter("s", s)`, "s"},
		row{"let x = a in $x", "a"}, row{"let x = :x in x + $x", "x :x"}, row{"let a = x in :a + $a", "x :a"}, row{"let s = :s in s - $s", "s"},
		row{"all()", "a b s t x y :a :s :x"}, row{"all() - x", "a b s t y :a :s :x"}, row{"all() - :x", "a b s t x y :a :s"},
	)
}

func TestUnion(t *testing.T) {
	wantRows(t, example,
		row{"x + y", "x y"}, row{"y + x", "x y"}, row{"x + x", "x"}, row{":a + x", "x :a"}, row{"x + :a", "x :a"},
		row{":d + z + :c + y + :b + x", "x y z :b :c :d"}, row{"x + y + x + y", "x y"}, row{"x + (y + (z + s))", "s x y z"},
		row{"x - x + y", "y"}, row{"y + (x - x)", "y"}, row{"x - x + (y - y)", ""},
	)
}

func TestMeet(t *testing.T) {
	wantRows(t, example,
		row{"x ^ y", ""}, row{"x ^ x", "x"}, row{"(x + y + :a) ^ (z + :a + y)", "y :a"}, row{"(z + :a + y) ^ (x + y + :a)", "y :a"},
		row{"x ^ (x + y)", "x"}, row{"(x + y) ^ x", "x"}, row{"x ^ (x - x)", ""}, row{"(x - x) ^ x", ""}, row{"all() ^ all()", "s u v w x y z :a :b :c :d"},
	)
}

func TestLess(t *testing.T) {
	wantRows(t, example,
		row{"x - x", ""}, row{"x - y", "x"}, row{"x + y - x", "y"}, row{"x - (x + y)", ""}, row{"x + y - y", "x"},
		row{"all() - (x + :a + w)", "s u v y z :b :c :d"}, row{"x - (x - x)", "x"}, row{"x - x - x", ""}, row{":d + :b - :a - x", ":b :d"},
	)
}

// Operators have the same precedence, and go from left to right.
func TestOperatorsFromLeftToRight(t *testing.T) {
	wantRows(t, example,
		row{"x + y - x + x", "x y"}, row{"x ^ y + z", "z"}, row{"x ^ (y + z)", ""}, row{"x + y ^ y", "y"}, row{"x + (y ^ z)", "x"},
		row{"x - y - x", ""}, row{"x - (y - x)", "x"}, row{"x - (x - x)", "x"}, row{"x - y ^ y", ""}, row{"x - (y ^ y)", "x"}, row{"x + y - (x + y) + z", "z"},
	)
}

func TestDeps(t *testing.T) {
	wantRows(t, example,
		row{"deps(w, 0)", "w"}, row{"deps(w, 1)", "w :c"}, row{"deps(w, 2)", "u w y :c"}, row{"deps(w, 3)", "u w y :b :c"}, row{"deps(w, 4)", "s u w x y :b :c"},
		row{"deps(w, 5)", "s u w x y :a :b :c"}, row{"deps(w, 6)", "s u w x y :a :b :c"}, row{"deps(w, 1000)", "s u w x y :a :b :c"}, row{"deps(w)", "s u w x y :a :b :c"},
		row{"deps(:c, 0)", ":c"}, row{"deps(:c, 1)", "u y :c"}, row{"deps(:b)", "s x :a :b"}, row{"deps(s)", "s"}, row{"deps(s, 1)", "s"},
		// From each of several, each as far; After does not count.
		row{"deps(w + x, 1)", "w x :a :c"}, row{"deps(w + x, 2)", "s u w x y :a :c"}, row{"deps(w + y, 2)", "s u w x y :b :c"}, row{"deps(v)", "v :d"}, row{"deps(v + :b, 0)", "v :b"},
		row{"deps(x - x)", ""}, row{"deps(x - x, 3)", ""}, row{"deps(x - x, 0)", ""},
	)
}

func TestRdeps(t *testing.T) {
	wantRows(t, example,
		row{"rdeps(x)", "w x y z :b :c"}, row{"rdeps(s)", "s w x y z :a :b :c"}, row{"rdeps(u)", "u w :c"}, row{"rdeps(:a)", "w x y z :a :b :c"},
		row{"rdeps(w)", "w"}, row{"rdeps(z)", "z"}, row{"rdeps(:d)", "v :d"}, row{"rdeps(v + u)", "u v w :c"}, row{"rdeps(x - x)", ""}, row{"rdeps(x) ^ deps(w)", "w x y :b :c"},
	)
}

// A QSome by itself: the labels are in the order of the path.
func TestSomeByItself(t *testing.T) {
	wantRows(t, example,
		row{"somepath(w, s)", "w :c y :b s"}, row{"(somepath(w, s))", "w :c y :b s"}, row{"((somepath((w), (s))))", "w :c y :b s"},
		row{"somepath(w, w)", "w"}, row{"somepath(:a, :a)", ":a"}, row{"somepath(:b, s)", ":b s"}, row{"somepath(w, :a)", "w :c y :b x :a"}, row{"somepath(z, x)", "z :b x"},
		// No path: backward, beside one another, by After, from or to nothing.
		row{"somepath(s, w)", ""}, row{"somepath(y, z)", ""}, row{"somepath(v, s)", ""}, row{"somepath(:c, :d)", ""}, row{"somepath(x - x, s)", ""}, row{"somepath(w, x - x)", ""}, row{"somepath(x - x, x - x)", ""},
		// Several labels on either side, or on both.
		row{"somepath(z + y, s)", "y :b s"}, row{"somepath(w, s + u)", "w :c u"}, row{"somepath(w + v, s + :d)", "v :d"}, row{"somepath(:a + u, s)", ":a s"}, row{"somepath(w + :b + z, x + s)", ":b s"},
		row{"somepath(w + x, x + s)", "x"}, row{"somepath(s + u, w + z)", ""}, row{"somepath(all(), all())", "s"}, row{"somepath(kind(rule, all()), kind(source, all()))", ":a s"},
		row{"somepath(w, all() - w)", "w :c"}, row{"somepath(all() - s - :a, s)", ":b s"},
		// Paths of other paths, which are sets there.
		row{"somepath(somepath(w, s), x)", ":b x"}, row{"somepath(w, somepath(z, s))", "w :c y :b"}, row{"somepath(somepath(w, :b), somepath(x, s))", ":b s"}, row{"somepath(somepath(s, w), somepath(w, s))", ""},
		row{"somepath(let a = w in $a, let a = s in $a)", "w :c y :b s"},
	)
}

// A QSome within another node: the labels are in ascending order.
func TestSomeWithinOthers(t *testing.T) {
	wantRows(t, example,
		row{"somepath(w, s) + s", "s w y :b :c"}, row{"x + somepath(w, s)", "s w x y :b :c"}, row{"somepath(w, s) + (x - x)", "s w y :b :c"}, row{"x - x + somepath(w, s)", "s w y :b :c"},
		row{"somepath(w, s) ^ all()", "s w y :b :c"}, row{"all() ^ somepath(w, s)", "s w y :b :c"}, row{"somepath(w, s) ^ deps(y)", "s y :b"},
		row{"somepath(w, s) - y", "s w :b :c"}, row{"somepath(w, s) - x", "s w y :b :c"}, row{"all() - somepath(w, s)", "u v x z :a :d"}, row{"somepath(w, s) - somepath(w, s)", ""},
		row{"deps(somepath(w, u), 0)", "u w :c"}, row{"deps(somepath(w, u), 1)", "u w y :c"}, row{"rdeps(somepath(w, u))", "u w :c"}, row{"rdeps(somepath(y, s))", "s w x y z :a :b :c"},
		row{"allpaths(somepath(w, u), s)", "s w x y :a :b :c"}, row{"allpaths(w, somepath(y, :a))", "w x y :a :b :c"},
		row{"kind(rule, somepath(w, s))", ":b :c"}, row{"kind(made, somepath(w, s))", "w y"}, row{"kind(source, somepath(w, s))", "s"},
		row{`filter("", somepath(w, s))`, "s w y :b :c"}, row{`filter("b", somepath(w, s))`, ":b"},
		row{"let p = somepath(w, s) in $p", "s w y :b :c"}, row{"let a = x in somepath(w, s)", "s w y :b :c"}, row{"let a = w in somepath($a, s)", "s w y :b :c"},
		row{"let p = somepath(w, s) in somepath($p, x)", "x :b"}, row{"let a = x in let b = y in somepath(w, s)", "s w y :b :c"}, row{"let p = let q = somepath(w, s) in $q in $p", "s w y :b :c"},
		row{"somepath(s, w) + x", "x"}, row{"let p = somepath(s, w) in $p", ""}, row{"all() - somepath(s, w)", "s u v w x y z :a :b :c :d"},
	)
}

func TestAllPaths(t *testing.T) {
	wantRows(t, example,
		row{"allpaths(w, s)", "s w x y :a :b :c"}, row{"allpaths(s, w)", ""}, row{"allpaths(w, w)", "w"}, row{"allpaths(y + z, x)", "x y z :b"}, row{"allpaths(w, u)", "u w :c"},
		row{"allpaths(w + z, s + u)", "s u w x y z :a :b :c"}, row{"allpaths(x - x, s)", ""}, row{"allpaths(w, x - x)", ""}, row{"allpaths(v, s)", ""}, row{"allpaths(:b, :a)", "x :a :b"},
		row{"allpaths(all(), all())", "s u v w x y z :a :b :c :d"}, row{"allpaths(w, s) - somepath(w, s)", "x :a"},
	)
}

func TestKind(t *testing.T) {
	wantRows(t, example,
		row{"kind(rule, all())", ":a :b :c :d"}, row{"kind(made, all())", "v w x y z"}, row{"kind(source, all())", "s u"},
		row{"kind(rule, x)", ""}, row{"kind(rule, :a)", ":a"}, row{"kind(rule, s)", ""}, row{"kind(made, x)", "x"}, row{"kind(made, :a)", ""}, row{"kind(made, s)", ""},
		row{"kind(source, x)", ""}, row{"kind(source, :a)", ""}, row{"kind(source, s)", "s"}, row{"kind(rule, x - x)", ""},
		row{"kind(rule, kind(made, all()))", ""}, row{"kind(made, kind(made, deps(w)))", "w x y"}, row{"kind(source, deps(z))", "s"},
	)
}

func TestFilter(t *testing.T) {
	wantRows(t, example,
		row{`filter("", all())`, "s u v w x y z :a :b :c :d"}, row{`filter("a", all())`, ":a"}, row{`filter("x", all())`, "x"}, row{`filter("x", x + y)`, "x"}, row{`filter("", x - x)`, ""},
		// The colon of a rule is not of its name.
		row{`filter(":", all())`, ""}, row{`filter(":a", all())`, ""}, row{`filter("a", :a)`, ":a"}, row{`filter("", :a)`, ":a"},
		row{`filter("none", all())`, ""}, row{`filter("xy", all())`, ""}, row{`filter("X", all())`, ""}, row{`filter("\xff", all())`, ""}, row{`filter(" ", all())`, ""},
	)
	const all = "Main bin/lib.o bin/main src/lib.c src/lib.h src/main.c test/in test/out :build/main :lib :test.all"
	wantRows(t, long,
		row{`filter("", all())`, all}, row{"all()", all}, row{`filter("/", all())`, "bin/lib.o bin/main src/lib.c src/lib.h src/main.c test/in test/out :build/main"},
		row{`filter("main", all())`, "bin/main src/main.c :build/main"}, row{`filter("Main", all())`, "Main"}, row{`filter("lib", all())`, "bin/lib.o src/lib.c src/lib.h :lib"},
		row{`filter("bin/", all())`, "bin/lib.o bin/main"}, row{`filter(".c", all())`, "src/lib.c src/main.c"}, row{`filter("/lib.", all())`, "bin/lib.o src/lib.c src/lib.h"},
		row{`filter("src/lib.c", all())`, "src/lib.c"}, row{`filter("src/lib.cc", all())`, ""}, row{`filter("all", all())`, ":test.all"}, row{`filter("t", rdeps(src/main.c))`, "test/out :test.all"},
		row{`filter("lib.*", all())`, ""}, row{`filter("[a-z]", all())`, ""}, row{`filter("lib", filter(".", all()))`, "bin/lib.o src/lib.c src/lib.h"}, row{`filter("in", filter("bin", kind(made, all())))`, "bin/lib.o bin/main"},
	)
}

func TestWhole(t *testing.T) {
	wantRows(t, example, row{"all()", "s u v w x y z :a :b :c :d"}, row{"all() - deps(w)", "v z :d"}, row{"deps(all())", "s u v w x y z :a :b :c :d"}, row{"rdeps(all())", "s u v w x y z :a :b :c :d"})
	wantRows(t, "rule none { out v; v = concat; }", row{"all()", "v :none"}, row{"kind(source, all())", ""})
}

func TestLet(t *testing.T) {
	wantRows(t, example,
		row{"let a = x in $a", "x"}, row{"let a = x in y", "y"}, row{"let a = x in $a + $a", "x"}, row{"let a = x + y in $a - x", "y"}, row{"let a = deps(w, 1) in rdeps($a)", "w :c"},
		row{"let a = x in let b = y in $a + $b - $a", "y"}, row{"let a = x in let b = $a + y in $b + $a", "x y"}, row{"let a = x - x in $a", ""}, row{"let x = y in x + $x", "x y"},
		row{"(let a = x in $a) + y", "x y"}, row{"y + (let a = x in $a)", "x y"}, row{"let a = x in (let b = y in $a) - $a", ""}, row{"let made = x in kind(made, $made)", "x"},
	)
}

// A let within a let of the same name, in the first and in the second Kid, and names that are bound again behind.
func TestLetOfTheSameName(t *testing.T) {
	wantRows(t, example,
		// In the second Kid.
		row{"let a = x in let a = y in $a", "y"}, row{"let a = x in let a = $a in $a", "x"}, row{"let a = x in let a = $a + y in $a", "x y"}, row{"let a = x in let a = $a + y in let a = $a + z in $a", "x y z"},
		row{"let a = x in (let a = y in $a) + $a", "x y"}, row{"let a = x in $a + (let a = y in $a)", "x y"}, row{"let a = x in (let a = y in $a) - $a", "y"}, row{"let a = x in $a - (let a = y in $a)", "x"},
		row{"let a = x in (let a = y in z) + $a", "x z"}, row{"let a = x in (let a = $a + y in $a) - $a", "y"},
		// In the first Kid.
		row{"let a = let a = x in $a in $a", "x"}, row{"let a = let a = x in $a + y in $a", "x y"}, row{"let a = (let a = x in y) in $a", "y"}, row{"let a = (let a = x in $a + y) - x in $a", "y"},
		row{"let a = z in let a = let a = $a + x in $a + y in $a", "x y z"}, row{"let a = z in let a = (let a = x in $a) + $a in $a", "x z"},
		// Bound again behind.
		row{"(let a = x in $a) + (let a = y in $a)", "x y"}, row{"(let a = x in $a) ^ (let a = y in $a)", ""}, row{"(let a = x in $a) - (let a = y in $a)", "x"}, row{"somepath(let a = y in $a, let a = x in $a)", "y :b x"},
		// A name denotes what it did where it was bound to another one.
		row{"let a = x in let b = $a in let a = y in $b", "x"}, row{"let a = x in let b = $a in let a = y in $a + $b", "x y"}, row{"let a = x in let b = $a + z in let a = y in $b - $a", "x z"},
		row{"let a = x in let b = (let a = y in $a) in $a + $b", "x y"}, row{"let a = x in let b = let c = $a in let a = y in $c in let c = z in $b + $c", "x z"},
	)
}

// Each kind of node within each other.
func TestNodesWithinOthers(t *testing.T) {
	wantRows(t, example,
		row{"deps(rdeps(u) ^ kind(made, all()), 2)", "u w y :c"}, row{"rdeps(deps(x + v) - (s + :d))", "v w x y z :a :b :c"}, row{"kind(rule, allpaths(rdeps(x), deps(x)))", ":a :b :c"},
		row{`filter("b", deps(kind(made, rdeps(x))))`, ":b"}, row{"allpaths(filter(\"z\", all()), kind(source, all()))", "s x z :a :b"}, row{"let a = kind(source, all()) in allpaths(w, $a) - rdeps($a)", ""},
		row{"let a = filter(\"c\", all()) in deps($a, 1) + rdeps($a)", "u w y :c"}, row{"deps(let a = w in $a, 1)", "w :c"}, row{"kind(made, let a = deps(y) in $a + z)", "x y z"},
		row{"let r = somepath(w, u) in deps($r, 1)", "u w y :c"}, row{"rdeps(kind(source, deps(y)))", "s w x y z :a :b :c"}, row{"deps(w, 0) + deps(v, 2)", "v w :d"}, row{"somepath(w, s) + all() - all()", ""},
	)
}

// Every error is that of scope.Check, and there is no label beside it.
func TestErrors(t *testing.T) {
	g := graphOf(t, rulesOf(t, example))
	for _, s := range []string{
		"!none", "x + !none", "x - !none", "!:x", "x + !:x", "!a", "deps(!none)", "rdeps(!:none)", "somepath(!none, s)", "somepath(w, !none)", "allpaths(!none, s)", "allpaths(w, !none)",
		"kind(rule, !none)", `filter("", !none)`, "let a = !none in x", "let a = x in !none", "x ^ !none ^ other", "!other + none", "!$v", "x + !$v", "deps(!$v)", "x + !$v + none", "x + !none + $v",
		"let v = !$v in $v", "let v = x in $v + !$w", "(let v = x in $v) + !$v", "let none = x in !none", "let v = !none in $w", "let v = x in (let w = y in $v) + !$w", "all() - !none", "x ^ y + !$x",
		"let v = !$w in x", "let w = x in let v = $w in $v - !$W", "let v = x in !:none", "(((!none)))",
	} {
		text := strings.Replace(s, "!", "", 1)
		want := api.Err{Code: api.ErrScope, At: strings.Index(s, "!")}
		wantTextError(t, g, text, want)
		q := parsed(t, text)
		wantError(t, g, q, want)
		if err := scope.Check(g, q); err != want {
			t.Errorf("scope.Check(%q) = %+v", text, err)
		}
	}
}

// The errors of ask.Parse are told as they are told there, and ahead of those of scope.Check.
func TestTextErrors(t *testing.T) {
	g := graphOf(t, rulesOf(t, example))
	most := api.Err{Code: api.ErrMost, At: -1}
	form := func(at int) api.Err { return api.Err{Code: api.ErrForm, At: at} }
	for s, want := range map[string]api.Err{
		// Too long, with and without other errors.
		strings.Repeat(" ", 401): most, "x" + strings.Repeat(" ", 400): most, strings.Repeat("!", 401): most, strings.Repeat("none ", 100): most, strings.Repeat("x + ", 101) + "x": most,
		// No words.
		"!": form(0), "x + !": form(4), "none + !": form(7), `filter("x, all())`: form(7), "x y !": form(4), "x\x00": form(1), `filter("\q", none)`: form(7),
		// No sentence.
		"": form(0), "x + ": form(4), "x y": form(2), "+ x": form(0), "none +": form(6), "$v y": form(3), "(none": form(5), "none)": form(4), "deps": form(4), "deps(x, 1001)": form(8), "deps(none, w)": form(11),
		"kind(other, x)": form(5), "filter(x, x)": form(7), "let": form(3), "let a = x": form(9), "let all = x in x": form(4), "x + let v = x in x": form(4), "all(x)": form(4), "$": form(1), ":": form(1), "a/ + x": form(0),
		// Too deep, and so with names that there are not.
		chain("x", 30): most, chain("none", 30): most, chain("$v", 30): most, chain("x", 31): most,
	} {
		wantTextError(t, g, s, want)
		wantTextError(t, nil, s, want)
		if _, err := ask.Parse(s); err != want {
			t.Errorf("ask.Parse(%q) = %+v", s, err)
		}
	}
	wantText(t, g, "x"+strings.Repeat(" ", 399), "x")
	wantText(t, g, chain("x", 29), "x")
	wantTextError(t, g, chain("none", 29), api.Err{Code: api.ErrScope})
	wantText(t, g, " ( let\nv=x\tin#+\n$v+y ) ", "x y")
}

// chain is a text of so many operators, of the depth one more.
func chain(name string, n int) string { return name + strings.Repeat("+"+name, n) }

// A graph of no rules and a nil graph have no labels.
func TestNoLabels(t *testing.T) {
	for _, g := range []*graph.Graph{nil, {}, graph.New(), graph.New([]api.Rule{}...), graph.New(api.Rule{})} {
		for _, s := range []string{
			"all()", "all() + all()", "all() ^ all()", "all() - all()", "deps(all())", "deps(all(), 0)", "deps(all(), 9)", "rdeps(all())", "somepath(all(), all())", "allpaths(all(), all())",
			"kind(rule, all())", "kind(made, all())", "kind(source, all())", `filter("", all())`, `filter("x", all())`, "let a = all() in $a", "let a = all() in let b = $a in $a + $b",
		} {
			wantText(t, g, s, "")
		}
		for _, s := range []string{"!x", "all() + !x", "!:a", "let a = all() in $a - !s", "!$a", "let a = all() in !$b", "deps(!x, 0)", "somepath(!x, s)"} {
			want := api.Err{Code: api.ErrScope, At: strings.Index(s, "!")}
			wantTextError(t, g, strings.Replace(s, "!", "", 1), want)
			wantError(t, g, parsed(t, strings.Replace(s, "!", "", 1)), want)
		}
		wantTextError(t, g, "", api.Err{Code: api.ErrForm})
		wantLabels(t, g, api.Query{}, nil)
	}
}

// wantPrint fails unless Print of ls is want.
func wantPrint(t *testing.T, want string, ls ...api.Label) {
	t.Helper()
	if got := eval.Print(ls...); got != want {
		t.Errorf("P19.1: Print of %q = %q, not %q", told(ls), got, want)
	}
}

func TestPrint(t *testing.T) {
	wantPrint(t, "")
	wantPrint(t, "", []api.Label{}...)
	wantPrint(t, "x\n", labelsOf("x")...)
	wantPrint(t, ":x\n", labelsOf(":x")...)
	wantPrint(t, "src/main.c\n:build/main\n", labelsOf("src/main.c :build/main")...)
	// In the order in which they are passed in, and as often.
	wantPrint(t, "b\n:a\nb\n", labelsOf("b :a b")...)
	wantPrint(t, ":z\n:a\nx\nb\n:b\nx\n", labelsOf(":z :a x b :b x")...)
	wantPrint(t, "\n:\n", api.Label{}, api.Label{Rule: true})
	wantPrint(t, "a\nb\n:::a\n\xff\x00\n", api.Label{Name: "a\nb"}, api.Label{Rule: true, Name: "::a"}, api.Label{Name: "\xff\x00"})
	many := slices.Repeat(labelsOf("x :y"), 100000)
	wantPrint(t, strings.Repeat("x\n:y\n", 100000), many...)
	// Of what a query denotes.
	ls, _ := eval.Text(graphOf(t, rulesOf(t, example)), "somepath(w, s)")
	wantPrint(t, "w\n:c\ny\n:b\ns\n", ls...)
}
