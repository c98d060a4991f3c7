package ask_test

import (
	"reflect"
	"slices"
	"strconv"
	"strings"
	"testing"

	"shipwright/api"
	"shipwright/ask"
	"shipwright/lex"
)

func TestExamplesOfPut(t *testing.T) {
	for s, want := range map[string]string{
		"a+(b+c)": "a + (b + c)", "(a+b)+c": "a + b + c", "let a=x in(let b=y in $a+$b)": "let a = x in let b = y in $a + $b",
	} {
		wantText(t, parsed(t, s), want)
	}
}

// A query of each form, made by hand as Parse would make it.
func TestPutOfEachForm(t *testing.T) {
	x, y := file("x"), file("y")
	for want, q := range map[string]api.Query{
		"x": x, ":x": rule("x"), "$x": named("x"), "a/b.c-D_9": file("a/b.c-D_9"), "x + y": op(api.QUnion, x, y), "x ^ y": op(api.QMeet, x, y), "x - y": op(api.QLess, x, y),
		"deps(x)": far(-1, x), "deps(x, 0)": far(0, x), "deps(x, 1)": far(1, x), "deps(x, 1000)": far(1000, x), "rdeps(x)": call(api.QRdeps, "", x),
		"somepath(x, y)": call(api.QSome, "", x, y), "allpaths(y, x)": call(api.QAll, "", y, x), "kind(rule, x)": call(api.QKind, "rule", x), "kind(made, x)": call(api.QKind, "made", x),
		"kind(source, x)": call(api.QKind, "source", x), `filter("", x)`: call(api.QFilter, "", x), `filter("a b", x)`: call(api.QFilter, "a b", x), "all()": all(),
		"let v = x in $v": let("v", x, named("v")), "let v = x in y": let("v", x, y),
	} {
		wantText(t, q, want)
		wantSame(t, want, q)
	}
}

// Strings are put as lex.Quote puts them, whatever bytes are in them.
func TestPutQuotes(t *testing.T) {
	wantText(t, parsed(t, `filter("\x0a\x09\x0d\x5c\x22\x41",x)`), `filter("\n\t\x0d\\\"A", x)`)
	for a := range 256 {
		for _, s := range []string{string([]byte{byte(a)}), string([]byte{'x', byte(a)}), string([]byte{byte(a), byte(a), '"'})} {
			q := call(api.QFilter, s, file("x"))
			wantText(t, q, "filter("+lex.Quote(s)+", x)")
			wantSame(t, ask.Put(q), q)
		}
	}
}

// Parentheses stand around a let beside an operator and around what an operator makes behind one, and nowhere else.
func TestPutParentheses(t *testing.T) {
	inner := map[string]bool{ // whether it needs parentheses as a first Kid of an operator
		"a": false, ":a": false, "$a": false, "a + b": false, "a ^ b": false, "a - b": false, "a - b + c": false, "let w = a in b": true, "let w = a in b + c": true,
		"deps(a)": false, "deps(a + b, 3)": false, "rdeps(a)": false, "somepath(a, b - c)": false, "allpaths(let w = a in b, c)": false, "kind(made, a)": false, `filter("s", a)`: false, "all()": false,
	}
	operators := []string{"a + b", "a ^ b", "a - b", "a - b + c"}
	for s, first := range inner {
		q := parsed(t, s)
		second := first || slices.Contains(operators, s)
		for o, kind := range kinds() {
			wantPut(t, op(kind, q, file("x")), wrapped(s, first)+" "+o+" x")
			wantPut(t, op(kind, file("x"), q), "x "+o+" "+wrapped(s, second))
			wantPut(t, op(kind, q, q), wrapped(s, first)+" "+o+" "+wrapped(s, second))
		}
		wantPut(t, far(-1, q), "deps("+s+")")
		wantPut(t, far(7, q), "deps("+s+", 7)")
		wantPut(t, call(api.QRdeps, "", q), "rdeps("+s+")")
		wantPut(t, call(api.QSome, "", q, q), "somepath("+s+", "+s+")")
		wantPut(t, call(api.QAll, "", q, q), "allpaths("+s+", "+s+")")
		wantPut(t, call(api.QKind, "rule", q), "kind(rule, "+s+")")
		wantPut(t, call(api.QFilter, "", q), `filter("", `+s+")")
		wantPut(t, let("v", q, q), "let v = "+s+" in "+s)
	}
}

// wrapped is s in parentheses, or alone.
func wrapped(s string, wrap bool) string {
	if wrap {
		return "(" + s + ")"
	}
	return s
}

// wantPut fails unless Put(q) is want, Parse(want) is q and, with any pair of parentheses less, another query or none.
func wantPut(t *testing.T, q api.Query, want string) {
	t.Helper()
	wantText(t, q, want)
	if len(want) > api.MaxAsk {
		wantMost(t, want)
		return
	}
	wantSame(t, want, q)
	again := parsed(t, want)
	wantText(t, again, want)
	if !ask.Eq(q, again) || !ask.Eq(again, q) || ask.Deep(q) != ask.Deep(again) {
		t.Errorf("P17.1: %s and %s are not equal", show(q), show(again))
	}
	for _, less := range withoutPairs(want) {
		if other, err := ask.Parse(less); err.Code == api.OK && reflect.DeepEqual(placeless(other), placeless(q)) {
			t.Errorf("P17.1: Put(%s) = %q, where %q does", show(q), want, less)
		}
	}
}

// withoutPairs are all texts that s becomes when one pair of parentheses is left out.
func withoutPairs(s string) []string {
	var all []string
	words, _ := lex.All(s)
	for i, w := range words {
		open := 0
		for _, v := range words[i:] {
			open += btoi(v.Kind == api.WPunct && v.Text == "(") - btoi(v.Kind == api.WPunct && v.Text == ")")
			if w.Kind == api.WPunct && w.Text == "(" && open == 0 {
				all = append(all, s[:w.At]+" "+s[w.At+1:v.At]+" "+s[v.At+1:])
				break
			}
		}
	}
	return all
}

// btoi is 1 for true.
func btoi(b bool) int {
	if b {
		return 1
	}
	return 0
}

// putWords are the words of the text of q, in the chapter's words.
func putWords(q api.Query) []string {
	isOp := func(q api.Query) bool { return q.Kind == api.QUnion || q.Kind == api.QMeet || q.Kind == api.QLess }
	switch {
	case q.Kind == api.QLabel && q.Label.Rule:
		return []string{":", q.Label.Name}
	case q.Kind == api.QLabel:
		return []string{q.Label.Name}
	case q.Kind == api.QVar:
		return []string{"$", q.Name}
	case q.Kind == api.QLet:
		return slices.Concat([]string{"let", q.Name, "="}, putWords(q.Kids[0]), []string{"in"}, putWords(q.Kids[1]))
	case isOp(q):
		first, second := putWords(q.Kids[0]), putWords(q.Kids[1])
		if q.Kids[0].Kind == api.QLet {
			first = slices.Concat([]string{"("}, first, []string{")"})
		}
		if q.Kids[1].Kind == api.QLet || isOp(q.Kids[1]) {
			second = slices.Concat([]string{"("}, second, []string{")"})
		}
		return slices.Concat(first, []string{map[int]string{api.QUnion: "+", api.QMeet: "^", api.QLess: "-"}[q.Kind]}, second)
	}
	return callWords(q)
}

// callWords are the words of the text of a call.
func callWords(q api.Query) []string {
	names := map[int]string{api.QDeps: "deps", api.QRdeps: "rdeps", api.QSome: "somepath", api.QAll: "allpaths", api.QKind: "kind", api.QFilter: "filter", api.QWhole: "all"}
	var args [][]string
	switch q.Kind {
	case api.QKind:
		args = append(args, []string{q.Name})
	case api.QFilter:
		args = append(args, []string{lex.Quote(q.Name)})
	}
	for _, k := range q.Kids {
		args = append(args, putWords(k))
	}
	if q.Kind == api.QDeps && q.N >= 0 {
		args = append(args, []string{strconv.Itoa(q.N)})
	}
	words := []string{names[q.Kind], "("}
	for i, a := range args {
		if i > 0 {
			words = append(words, ",")
		}
		words = append(words, a...)
	}
	return append(words, ")")
}

// joined is words with blanks where the chapter has them.
func joined(words []string) string {
	s := ""
	for i, w := range words {
		around := slices.Contains([]string{"+", "^", "-", "=", "in"}, w)
		if around && i > 0 {
			s += " "
		}
		s += w
		if around || w == "let" || w == "," {
			s += " "
		}
	}
	return s
}

func TestPutOfMadeUpQueries(t *testing.T) {
	queries, texts := made(8000, 60, "", " ")
	for i, s := range texts {
		if len(s) <= api.MaxAsk && depth(queries[i]) <= api.MaxDeep {
			want := joined(putWords(queries[i]))
			wantPut(t, parsed(t, s), want)
			wantPut(t, queries[i], want)
		}
	}
}

// A text that Parse takes may become too long by the blanks.
func TestPutOfLongTexts(t *testing.T) {
	s, want := "a", "a"
	for range 5 {
		s, want = "b+("+s+"+c)", "b + ("+want+" + c)"
	}
	wantPut(t, parsed(t, s), want)
	args := strings.Repeat("somepath(x,", 29) + "x" + strings.Repeat(")", 29)
	wantPut(t, parsed(t, args), strings.ReplaceAll(args, ",", ", "))
	wide := "a+b+c+d+e+f+g+h+i+j+k+l+m+n+o+p+q+r+s+t+u+v+w+x+y+z"
	most := wide + "+(" + wide + "+(" + wide + "+(" + wide + ")))+(" + wide + "+(" + wide + "))"
	q := parsed(t, most)
	if got := joined(putWords(q)); len(most) > api.MaxAsk || len(got) <= api.MaxAsk {
		t.Errorf("P17.1: %d bytes become %d", len(most), len(got))
	}
	wantPut(t, q, joined(putWords(q)))
}

// nodes are all nodes of q.
func nodes(q *api.Query) []*api.Query {
	all := []*api.Query{q}
	for i := range q.Kids {
		all = append(all, nodes(&q.Kids[i])...)
	}
	return all
}

// changes are calls that make a node another one; those of At alone are left out.
func changes() map[string]func(*api.Query) {
	return map[string]func(*api.Query){
		"Kind up":    func(q *api.Query) { q.Kind++ },
		"Kind down":  func(q *api.Query) { q.Kind-- },
		"Rule":       func(q *api.Query) { q.Label.Rule = !q.Label.Rule },
		"Label":      func(q *api.Query) { q.Label.Name += "x" },
		"Name":       func(q *api.Query) { q.Name += "x" },
		"other Name": func(q *api.Query) { q.Name = "\x00" + q.Name },
		"N up":       func(q *api.Query) { q.N++ },
		"N down":     func(q *api.Query) { q.N-- },
		"N":          func(q *api.Query) { q.N += 1 << 32 },
		"more Kids":  func(q *api.Query) { q.Kids = append(q.Kids[:len(q.Kids):len(q.Kids)], api.Query{}) },
		"less Kids":  func(q *api.Query) { q.Kids = q.Kids[:max(0, len(q.Kids)-1)] },
		"no Kids":    func(q *api.Query) { q.Kids = nil },
		"first Kid": func(q *api.Query) {
			if len(q.Kids) > 0 {
				q.Kids = append(q.Kids, q.Kids[0])[1:]
			}
		},
	}
}

// wantEq fails unless Eq is want of a and b, and of b and a.
func wantEq(t *testing.T, a, b api.Query, want bool) {
	t.Helper()
	if ask.Eq(a, b) != want || ask.Eq(b, a) != want {
		t.Errorf("P17.1: Eq(%s, %s) = %v, %v, not %v", show(a), show(b), ask.Eq(a, b), ask.Eq(b, a), want)
	}
}

func TestEq(t *testing.T) {
	texts := []string{"x", ":x", "$x", "a + b", "a + b + c", "a + (b + c)", "a - a", "deps(x)", "deps(x, 0)", "deps(x, 2)", "rdeps(x)", "somepath(x, y)", "somepath(y, x)", "allpaths(x, y)", "kind(rule, x)",
		"kind(made, x)", `filter("", x)`, `filter("x", x)`, "all()", "let v = x in y", "let w = x in y", "let v = y in x", "y", ":y", "$y", "a ^ b", "a - b", "b + a"}
	for i, s := range texts {
		for j, u := range texts {
			wantEq(t, parsed(t, s), parsed(t, u), i == j)
			wantEq(t, far(-1, parsed(t, s)), far(-1, parsed(t, "  "+u)), i == j)
			wantEq(t, let("v", file("q"), parsed(t, s)), let("v", file("q"), parsed(t, u)), i == j)
		}
		wantEq(t, parsed(t, s), parsed(t, " # other places\n ("+s+")"), true)
		wantEq(t, parsed(t, s), api.Query{}, false)
	}
	wantEq(t, api.Query{}, api.Query{At: 7, Kids: []api.Query{}}, true)
}

// Each change of each node makes another query, and one of its place does not.
func TestEqAfterEachChange(t *testing.T) {
	const s = `let v = deps(a + :b, 7) ^ $w - rdeps(x) in somepath(c, d) + allpaths(deps(e), kind(made, filter("s", all()))) - (a + (b - (let u = p in q)))`
	count := len(nodes(&[]api.Query{parsed(t, s)}[0]))
	for i := range count {
		for name, change := range changes() {
			a, b := parsed(t, s), parsed(t, s)
			change(nodes(&b)[i])
			same := reflect.DeepEqual(placeless(a), placeless(b))
			wantEq(t, a, b, same)
			if same && !strings.HasSuffix(name, "Kids") && name != "first Kid" {
				t.Errorf("P17.1: no change by %s at %d", name, i)
			}
		}
		a, b := parsed(t, s), parsed(t, s)
		for _, at := range []int{-1, 0, 1000, -1 << 63, 1<<63 - 1} {
			nodes(&b)[i].At = at
			wantEq(t, a, b, true)
		}
		if n := nodes(&b)[i]; len(n.Kids) == 0 {
			n.Kids = []api.Query{}
			wantEq(t, a, b, true)
			n.Kids = make([]api.Query, 0, 5)
			wantEq(t, a, b, true)
		}
	}
}

// Of two lists of Kids, each Kid counts, the last too, and what lies behind them in memory does not.
func TestEqOfManyKids(t *testing.T) {
	for n := range 40 {
		for i := range n {
			a, b := make([]api.Query, n, n+2), make([]api.Query, n, n+3)
			a[:n+1][n].N, b[:n+1][n].N = 1, 2
			wantEq(t, api.Query{Kids: a}, api.Query{Kids: b}, true)
			b[i].N = 1
			wantEq(t, api.Query{Kids: a}, api.Query{Kids: b}, false)
			a[i].N = 1
			wantEq(t, api.Query{Kids: a}, api.Query{Kids: b}, true)
			b[i].Kids = []api.Query{{}}
			wantEq(t, api.Query{Kids: a}, api.Query{Kids: b}, false)
		}
		wantEq(t, api.Query{Kids: make([]api.Query, n)}, api.Query{Kids: make([]api.Query, n+1)}, false)
	}
}

func TestEqOfMadeUpQueries(t *testing.T) {
	loose, _ := made(400, 30, "", " ", "\n\n")
	tight, _ := made(400, 30, " ")
	for i := range tight {
		for j := range tight {
			want := reflect.DeepEqual(placeless(tight[i]), placeless(tight[j]))
			if got := ask.Eq(tight[i], tight[j]); got != want {
				t.Fatalf("P17.1: Eq(%s, %s) = %v", show(tight[i]), show(tight[j]), got)
			}
		}
		want := reflect.DeepEqual(placeless(tight[i]), placeless(loose[i]))
		wantEq(t, tight[i], loose[i], want)
	}
}

// wantDeep fails unless Deep(q) is want.
func wantDeep(t *testing.T, q api.Query, want int) {
	t.Helper()
	if got := ask.Deep(q); got != want {
		t.Errorf("P17.1: Deep(%s) = %d, not %d", show(q), got, want)
	}
}

func TestDeep(t *testing.T) {
	for s, want := range map[string]int{
		"x": 1, "x + y": 2, "deps(x + deps(y))": 4, // the chapter's
		":x": 1, "$x": 1, "all()": 1, "((x))": 1, "x ^ y": 2, "x - y": 2, "x + y + z": 3, "x + (y + z)": 3, "(x + y) + (z + w)": 3, "deps(x)": 2, "deps(x, 9)": 2, "rdeps(x)": 2, "somepath(x, y)": 2,
		"allpaths(x, y)": 2, "kind(rule, x)": 2, `filter("", x)`: 2, "let v = x in y": 2, "let v = deps(x) in y": 3, "let v = x in deps(y)": 3, "let v = x in let w = y in z": 3,
		"let v = let w = x in y in z": 3, "somepath(deps(deps(x)), y)": 4, "somepath(x, deps(deps(y)))": 4, "allpaths(deps(x), deps(y))": 3, "rdeps(x) + (y - rdeps(z))": 4,
	} {
		wantDeep(t, parsed(t, s), want)
	}
	wantDeep(t, api.Query{}, 1)
	wantDeep(t, api.Query{Kids: []api.Query{}}, 1)
	wantDeep(t, api.Query{Kids: []api.Query{{}, {}, {}, {Kids: []api.Query{{}}}, {}}}, 3)
	wantDeep(t, api.Query{Kids: make([]api.Query, 0, 3)}, 1)
	queries, _ := made(2000, 60, " ")
	for _, q := range queries {
		wantDeep(t, q, depth(q))
	}
}
