package scope_test

import (
	"fmt"
	"reflect"
	"slices"
	"strings"
	"testing"

	"shipwright/api"
	"shipwright/ask"
	"shipwright/graph"
	"shipwright/parse"
	"shipwright/scope"
)

// example has the files s, u (only Ins), x, y, z, w, b (made) and the rules a, b, x, d; the file t is none of its
// labels, for no rule has it as an In or an Out.
const example = `rule a { in s; out x; t = sort s; x = copy t; }
rule b { in x, s; out y, z; y = copy x; z = copy s; }
rule x { in y, u; out w; after d; w = copy y; }
rule d { out b; after a; b = concat; }`

// here and absent are labels that example has, and labels that it has not.
const (
	here   = "s u x y z w b :a :b :x :d"
	absent = "t v a d :s :u :y :z :w :t X :A xx :aa none :none 0 _"
)

// graphOf returns the graph of a rule file's rules, which is not nil, and the rules.
func graphOf(t *testing.T, text string) (*graph.Graph, []api.Rule) {
	t.Helper()
	rs, err := parse.File(text)
	g := graph.New(rs...)
	if err.Code != api.OK || g == nil {
		t.Fatalf("no graph of %q: %+v", text, err)
	}
	return g, rs
}

// parsed returns the query that s denotes.
func parsed(t *testing.T, s string) api.Query {
	t.Helper()
	q, err := ask.Parse(s)
	if err.Code != api.OK {
		t.Fatalf("ask.Parse(%q) = %+v", s, err)
	}
	return q
}

// show tells a query on one line, or the beginning of it.
func show(q api.Query) string { return fmt.Sprintf("%.500s", fmt.Sprintf("%+v", q)) }

// wantAnswers fails unless Check and Free of q are err and free.
func wantAnswers(t *testing.T, g *graph.Graph, q api.Query, told string, err api.Err, free []string) {
	t.Helper()
	if got := scope.Check(g, q); got != err {
		t.Errorf("P18.1: Check of %s = %+v, not %+v", told, got, err)
	}
	if got := scope.Free(q); !slices.Equal(got, free) {
		t.Errorf("P18.1: Free of %s = %q, not %q", told, got, free)
	}
}

// wantMarked fails unless Check tells the place of the mark "!" in s, or no error if there is none, and Free the
// names in free; and so if the blanks of s are other ones.
func wantMarked(t *testing.T, g *graph.Graph, s, free string) {
	t.Helper()
	for _, blank := range []string{" ", "\n \t", " # $v none\n"} {
		marked := strings.ReplaceAll(s, " ", blank)
		err := api.Err{}
		if at := strings.Index(marked, "!"); at >= 0 {
			err = api.Err{Code: api.ErrScope, At: at}
		}
		text := strings.Replace(marked, "!", "", 1)
		if blank != " " && len(text) > api.MaxAsk {
			continue
		}
		wantAnswers(t, g, parsed(t, text), fmt.Sprintf("%q", text), err, strings.Fields(free))
	}
}

// row is a query, marked where Check is to tell an error, and the names that are free in it.
type row struct{ query, free string }

// wantRows fails unless Check and Free are what the rows say, of example.
func wantRows(t *testing.T, rows ...row) {
	t.Helper()
	g, _ := graphOf(t, example)
	for _, r := range rows {
		wantMarked(t, g, r.query, r.free)
	}
}

// forms are queries, each with a place for another one, Q, in each place of the grammar that takes one. The names
// that they bind are other ones than those of the queries that are put there.
func forms() []string {
	return []string{
		"Q", "(Q)", "((Q))", "Q + x", "x + Q", "Q ^ x", "x ^ Q", "Q - x", "x - Q", "x + (Q) + x", "x - (y ^ (Q))",
		"deps(Q)", "deps(Q, 0)", "deps(Q, 1000)", "rdeps(Q)", "somepath(Q, x)", "somepath(x, Q)", "allpaths(Q, x)", "allpaths(x, Q)",
		"kind(rule, Q)", "kind(made, Q)", "kind(source, Q)", `filter("", Q)`, `filter("none", Q)`, `filter("$v", Q)`,
		"let none = Q in x", "let none = x in Q", "let none = x in $none + (Q)", "let x = (Q) in $x", "all() + (Q)",
	}
}

// put returns the form with q in its place, in parentheses if it may be more than an item.
func put(form, q string) string {
	if strings.Contains(q, " ") {
		q = "(" + q + ")"
	}
	return strings.Replace(form, "Q", q, 1)
}

func TestExamples(t *testing.T) {
	wantRows(t,
		row{"let v = !$v in $v", "v"},
		row{"!$w + none + $a", "a w"},
		row{"x + !none + :none", ""},
	)
	g, _ := graphOf(t, example)
	wantAnswers(t, g, parsed(t, "let v = $v in $v"), "the first example", api.Err{Code: api.ErrScope, At: 8}, []string{"v"})
	wantAnswers(t, g, parsed(t, "x + none + :none"), "the third example", api.Err{Code: api.ErrScope, At: 4}, nil)
}

// Labels that there are and are not, in each form and in each form within another one.
func TestLabels(t *testing.T) {
	g, _ := graphOf(t, example)
	for _, form := range forms() {
		for _, l := range strings.Fields(here) {
			wantMarked(t, g, put(form, l), "")
		}
		for _, l := range strings.Fields(absent) {
			wantMarked(t, g, put(form, "!"+l), "")
		}
		for _, outer := range forms() {
			wantMarked(t, g, put(outer, put(form, "y")), "")
			wantMarked(t, g, put(outer, put(form, "!a")), "")
			wantMarked(t, g, put(outer, put(form, "!:y")), "")
		}
	}
	wantRows(t, row{"all()", ""}, row{`kind(rule, filter("none", all()))`, ""})
}

// Files and rules of one name are two labels, of which there may be one, the other, both or none.
func TestFilesAndRulesOfOneName(t *testing.T) {
	wantRows(t,
		row{"x + :x", ""}, row{"b + :b", ""}, row{":x - x", ""},
		row{":a", ""}, row{":a + !a", ""}, row{"!a + :a", ""}, row{":d - !d", ""},
		row{"s", ""}, row{"!:s + s", ""}, row{"s + !:s", ""}, row{"!none + :none", ""}, row{"x + !:none + none", ""},
	)
}

// A variable in each form, and in each form within another one: free, and bound.
func TestVariables(t *testing.T) {
	g, _ := graphOf(t, example)
	var inner []string
	for _, form := range forms() {
		for _, outer := range forms() {
			inner = append(inner, put(outer, put(form, "VAR")))
		}
	}
	for _, q := range inner {
		free := strings.Replace(q, "VAR", "!$v", 1)
		q = strings.Replace(q, "VAR", "$v", 1)
		wantMarked(t, g, free, "v")
		wantMarked(t, g, "let v = x in "+q, "")
		wantMarked(t, g, "let w = x in "+free, "v")
		wantMarked(t, g, "let v = "+free+" in x", "v")
		wantMarked(t, g, "let v = "+free+" in $v", "v")
		wantMarked(t, g, "let w = "+free+" in $w", "v")
		wantMarked(t, g, "let v = x in let w = "+q+" in $v", "")
		wantMarked(t, g, "(let v = x in $v) + ("+free+")", "v")
		wantMarked(t, g, "("+free+") + (let v = x in $v)", "v")
	}
}

// What binds a name is a let alone, and a name is bound by a let of that same name alone.
func TestNamesOfOtherNodes(t *testing.T) {
	wantRows(t,
		row{`x + filter("v", !$v)`, "v"}, row{`filter("v", x) + !$v`, "v"}, row{"kind(made, !$made)", "made"},
		row{"x + !$x", "x"}, row{":a + !$a", "a"}, row{"let v = x in !$V", "V"}, row{"let v = x in !$vv", "vv"},
		row{"let vv = x in !$v", "v"}, row{"let v = x in !v", ""}, row{"let v = x in !:v", ""}, row{"let none = x in !none", ""},
		row{"let x = y in x + $x", ""}, row{"let x = y in :x + $x", ""}, row{"let none = x in $none", ""},
		row{"let v.1 = x in $v.1 + !$v.2", "v.2"}, row{"let made = x in kind(made, $made)", ""},
	)
}

// A let whose first Kid holds its own name does not bind it there, but another let around it may.
func TestFirstKid(t *testing.T) {
	wantRows(t,
		row{"let v = !$v in x", "v"}, row{"let v = !$v in $v", "v"}, row{"let v = x + !$v in $v", "v"}, row{"let v = deps(!$v) in $v + $v", "v"},
		row{"let v = x in let v = $v in $v", ""}, row{"let w = x in let v = $w in $v", ""}, row{"let w = x in let v = !$v in $v", "v"},
		row{"let w = x in let v = $w in $v + $w", ""}, row{"let v = !$w in let w = $v in $v + $w", "w"},
		row{"let v = x in let w = $v in $w + $v", ""}, row{"let v = x in let w = !$w in $v", "w"},
	)
}

// A let within a let, of the same name and of another one, in the first and in the second Kid.
func TestLetWithinLet(t *testing.T) {
	wantRows(t,
		// Of the same name, in the second Kid.
		row{"let v = x in let v = y in $v", ""}, row{"let v = x in $v + (let v = y in $v)", ""}, row{"let v = x in (let v = y in $v) + $v", ""},
		row{"let v = x in (let v = y in x) + $v", ""}, row{"let v = !$v in let v = $v in $v", "v"},
		// Of the same name, in the first Kid.
		row{"let v = let v = x in $v in $v", ""}, row{"let v = let v = !$v in $v in $v", "v"}, row{"let v = (let v = x in $v) + !$v in $v", "v"},
		row{"let v = !$v + (let v = x in $v) in $v", "v"}, row{"let v = let v = x in x in $v", ""},
		// Of another name, in the second Kid.
		row{"let v = x in let w = y in $v + $w", ""}, row{"let v = x in let w = y in $w", ""}, row{"let v = x in let w = y in $v", ""},
		row{"let v = x in (let w = y in $v) + !$w", "w"}, row{"let v = x in !$w + (let w = y in $v)", "w"}, row{"let v = x in let w = y in !$u", "u"},
		// Of another name, in the first Kid.
		row{"let v = let w = x in $w in $v", ""}, row{"let v = let w = x in $w in !$w", "w"}, row{"let v = let w = x in !$v in $v", "v"},
		row{"let v = let w = !$w in $w in $v", "w"}, row{"let v = let w = x in $w in $v + !$w", "w"},
		// Three of them.
		row{"let v = x in let w = y in let v = z in $v + $w", ""}, row{"let v = let w = let u = x in $u in $w in $v", ""},
		row{"let v = let w = let u = x in $u in !$u in $v", "u"}, row{"let a = x in let b = $a in let c = $a + $b in $a + $b + $c + !$d", "d"},
	)
}

// A variable outside of every let, and one behind a let that has ended.
func TestBehindLet(t *testing.T) {
	wantRows(t,
		row{"!$v", "v"}, row{"(let v = x in $v) + !$v", "v"}, row{"!$v + (let v = x in $v)", "v"}, row{"(let v = x in $v) - x ^ !$v", "v"},
		row{"somepath(let v = x in $v, !$v)", "v"}, row{"allpaths(!$v, let v = x in $v)", "v"}, row{"somepath(let v = x in $v, let v = y in $v)", ""},
		row{"deps(let v = x in $v) + deps(!$v)", "v"}, row{"(let v = x in $v) + (let w = x in !$v)", "v"}, row{"(let v = x in $v) + (let w = !$v in $w)", "v"},
		row{"let v = x in $v + x - $v", ""}, row{"(let v = x in $v + !$w) + $v", "v w"},
	)
}

// Where several names are wrong, the least place is told, be it a label's or a variable's.
func TestLeastPlace(t *testing.T) {
	wantRows(t,
		row{"!none + other", ""}, row{"!:none + other", ""}, row{"!none + :other + x", ""}, row{"x + !none + other", ""}, row{"!none - (other - none)", ""},
		row{"!$v + $w", "v w"}, row{"!$w + $v", "v w"}, row{"!$v + $v", "v"}, row{"x + !$w - $v", "v w"},
		row{"!$v + none", "v"}, row{"!none + $v", "v"}, row{"x + !$v + :none", "v"}, row{"x + !:none + $v", "v"},
		row{"(x + (y - !none)) + $v", "v"}, row{"((x ^ !$v) + none) - $w", "v w"}, row{"(x + y) ^ (!none + ($v + $w))", "v w"},
		row{"somepath(x + !$v, none)", "v"}, row{"allpaths(!none, $v)", "v"}, row{"let v = !none in $w", "w"}, row{"let v = !$w in none", "w"},
		row{"let v = x in !none + $w", "w"}, row{"let v = !$v in none + $v", "v"}, row{"let v = x in $v + !$w + none", "w"},
	)
}

// The place of an operator is behind its first Kid's, and neither is told but for a name that is wrong.
func TestPlacesOfOtherNodes(t *testing.T) {
	wantRows(t,
		row{"(x + y) + !none", ""}, row{"x + (y + !none)", ""}, row{"deps(x + !none, 3)", ""}, row{"let v = x + y in $v - !none", ""},
		row{"kind(made, rdeps(x ^ !$v))", "v"}, row{"all() + !:none", ""}, row{"(((!none)))", ""}, row{"(((!$v)))", "v"}, row{"(((!:none)))", ""},
	)
}

// Where nodes stand in the list of Kids does not count, but their At.
func TestLeastPlaceIsNotTheFirstOne(t *testing.T) {
	g, _ := graphOf(t, example)
	at := func(n int, q api.Query) api.Query {
		q.At = n
		return q
	}
	none, free := api.Query{Kind: api.QLabel, Label: api.Label{Name: "none"}}, api.Query{Kind: api.QVar, Name: "v"}
	places := []int{-1 << 63, -7, -1, 0, 1, 2, 30, 1<<63 - 1}
	for _, a := range places {
		for _, b := range places {
			for _, c := range places {
				want := api.Err{Code: api.ErrScope, At: min(a, b, c)}
				inner := api.Query{Kind: api.QLess, At: -50, Kids: []api.Query{at(b, free), at(c, none)}}
				q := api.Query{Kind: api.QUnion, At: -60, Kids: []api.Query{at(a, none), inner}}
				wantAnswers(t, g, q, show(q), want, []string{"v"})
				slices.Reverse(q.Kids)
				wantAnswers(t, g, q, show(q), want, []string{"v"})
				q = at(a, none)
				q.Kids = []api.Query{inner}
				wantAnswers(t, g, q, show(q), want, []string{"v"})
			}
		}
		wantAnswers(t, g, at(a, none), "one label", api.Err{Code: api.ErrScope, At: a}, nil)
		wantAnswers(t, g, at(a, free), "one variable", api.Err{Code: api.ErrScope, At: a}, []string{"v"})
	}
}

// Nothing is wrong: no error, and At 0.
func TestNoError(t *testing.T) {
	wantRows(t,
		row{"all()", ""}, row{"x", ""}, row{":a", ""}, row{"x + :a - s ^ u", ""}, row{"   x", ""}, row{"let v = x in let w = $v in $v + $w", ""},
		row{"let v = deps(x, 2) in kind(source, $v) + :a", ""}, row{"somepath(w, s) + allpaths(:x, u) - filter(\"x\", rdeps(s))", ""},
	)
}

// A nil graph has no label, and the graph of no rules has none either.
func TestNoLabels(t *testing.T) {
	for _, g := range []*graph.Graph{nil, {}, graph.New()} {
		for _, l := range strings.Fields(here + " " + absent) {
			wantMarked(t, g, "!"+l, "")
			wantMarked(t, g, "all() + !"+l+" + other", "")
		}
		wantMarked(t, g, "all()", "")
		wantMarked(t, g, "let v = all() in deps($v) - $v", "")
		wantMarked(t, g, "let v = !x in $w", "w")
		wantMarked(t, g, "let v = all() in $v + !$w + :a", "w")
		wantAnswers(t, g, api.Query{}, "the zero Query", api.Err{}, nil)
		wantAnswers(t, g, api.Query{Kind: api.QLabel}, "no name", api.Err{Code: api.ErrScope}, nil)
	}
}

// Names are told in the order of their bytes, each once, whatever their order in the query.
func TestFreeIsAscending(t *testing.T) {
	names := []string{"-a", "...", ".a", "0", "10", "9", "A", "Z", "_", "a", "a-b", "a.b", "a/b", "a0", "ab", "b", "made", "z", "zz"}
	for n, bound := range names {
		rest := slices.Concat(names[n+1:], names[:n])
		others := strings.Join(slices.Concat(names[:n], names[n+1:]), " ")
		for range 2 {
			sum := "!$" + strings.Join(rest, " + $")
			wantMarked(t, nil, sum+" - $"+bound+" ^ $"+rest[0], strings.Join(names, " "))
			wantMarked(t, nil, "let "+bound+" = all() in $"+bound+" - "+sum, others)
			slices.Reverse(rest)
		}
	}
	wantRows(t,
		row{"!$b + $a + $b + $a + $b", "a b"}, row{"!$v + $v + $v", "v"}, row{"!$v + (let w = $v in $v - $w)", "v"},
		row{"somepath(!$z, $y) - $x + deps($w) ^ $z", "w x y z"},
	)
}

// A name that is free in one place and bound in another is free; a query without variables has no free ones.
func TestFreeHereAndBoundThere(t *testing.T) {
	wantRows(t,
		row{"(let v = x in $v) + !$v + (let v = y in $v)", "v"}, row{"let v = !$v in let w = $v in $v + $w", "v"},
		row{"(let v = x in !$w) + (let w = x in $v)", "v w"}, row{"(let v = x in $v) + (let w = x in $w)", ""},
		row{"let v = x in (let w = y in $v + $w) + !$w", "w"},
		row{"x", ""}, row{"let v = x in y", ""}, row{"all()", ""}, row{"!none", ""}, row{`filter("$v", !v)`, ""},
	)
}

// What Check tells hangs on the graph; what Free tells does not.
func TestOtherGraph(t *testing.T) {
	g, _ := graphOf(t, "rule none { in t; out a, v; a = copy t; v = concat; }")
	for _, l := range strings.Fields("t a v :none") {
		wantMarked(t, g, l, "")
		wantMarked(t, g, "deps("+l+") + !$v", "v")
	}
	for _, l := range strings.Fields("none x s b :a :t :v") {
		wantMarked(t, g, "!"+l, "")
	}
}

// Twice the same question has the same answer, whatever was asked in between.
func TestCallsTellTheSameAgain(t *testing.T) {
	g, _ := graphOf(t, example)
	other, _ := graphOf(t, "rule none { out v; v = concat; }")
	texts := []string{"none", "$v + $w", "let v = x in $v + none", "x", "let v = $v in $w", "deps(v) - :none"}
	type answer struct {
		err, other api.Err
		free       []string
	}
	told := func(s string) answer {
		q := parsed(t, s)
		return answer{scope.Check(g, q), scope.Check(other, q), scope.Free(q)}
	}
	first := map[string]answer{}
	for _, s := range texts {
		first[s] = told(s)
	}
	for range 20 {
		slices.Reverse(texts)
		for _, s := range texts {
			if !reflect.DeepEqual(told(s), first[s]) {
				t.Errorf("P0.5: other answers for %q", s)
			}
		}
	}
}
