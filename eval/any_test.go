package eval_test

import (
	"math/rand/v2"
	"reflect"
	"slices"
	"strconv"
	"strings"
	"testing"

	"shipwright/api"
	"shipwright/ask"
	"shipwright/eval"
)

func file(name string) api.Query {
	return api.Query{Kind: api.QLabel, Label: api.Label{Name: name}}
}

func node(kind int, name string, kids ...api.Query) api.Query {
	return api.Query{Kind: kind, Name: name, Kids: kids}
}

// Each kind of node, and kinds that there are not, with too few and too many Kids, and any number and name.
func TestAnyNodes(t *testing.T) {
	a := askedOf(t, rulesOf(t, example))
	for _, kind := range []int{-1 << 63, -1, 0, 1, 2, 3, 4, 5, 6, 7, 8, 9, 10, 11, 12, 13, 14, 1000, 1<<63 - 1} {
		for count := range 5 {
			kids := []api.Query{file("w"), node(api.QDeps, "", file("y")), file("x"), file("z")}[:count]
			for _, n := range []int{-1 << 63, -7, -1, 0, 1, 2, 1000, 1001, 1<<63 - 1} {
				for _, name := range []string{"", "v", "rule", "made", "source", "Rule", "b", ":b", "\xff", strings.Repeat("n", 10000)} {
					q := api.Query{Kind: kind, At: n, Label: api.Label{Rule: true, Name: "b"}, Name: name, N: n, Kids: kids}
					a.wantExpected(t, q)
					a.wantExpected(t, node(api.QLet, name, q, node(api.QVar, name)))
					a.wantExpected(t, node(api.QLet, name, file("u"), q))
					a.wantExpected(t, node(api.QUnion, name, file("u"), q, node(api.QWhole, "")))
				}
			}
		}
	}
	for _, name := range []string{"", "\x00", "\xff\xfe", ":", "$v", "all", strings.Repeat("n", 100000)} {
		wantLabels(t, a.g, node(api.QLet, name, file("x"), node(api.QVar, name)), labelsOf("x"))
		wantError(t, a.g, node(api.QLet, name+"x", file("x"), node(api.QVar, name)), api.Err{Code: api.ErrScope})
		wantError(t, a.g, file(name), api.Err{Code: api.ErrScope})
	}
}

// A variable in the first Kid of a let, or behind its second Kid, is not bound by it, but may be so by one around it.
func TestBoundAround(t *testing.T) {
	a := askedOf(t, rulesOf(t, example))
	v := node(api.QVar, "v")
	for count := range 4 {
		inner := node(api.QLet, "v", []api.Query{v, node(api.QUnion, "", v, file("y")), v}[:count]...)
		wantError(t, a.g, node(api.QUnion, "", inner, v), api.Err{Code: api.ErrScope})
		a.wantExpected(t, node(api.QLet, "v", file("x"), inner))
		a.wantExpected(t, node(api.QLet, "v", file("x"), node(api.QLess, "", inner, v)))
		a.wantExpected(t, node(api.QLet, "v", file("x"), node(api.QUnion, "", v, inner), v)) // its third Kid is outside
	}
}

func TestAnyTexts(t *testing.T) {
	g := graphOf(t, rulesOf(t, example))
	for a := range 256 {
		for b := range 256 {
			s := string([]byte{byte(a), byte(b)})
			_, want := ask.Parse(s)
			if ls, err := eval.Text(g, s); want.Code != api.OK && err != want || err.Code != api.OK && ls != nil {
				t.Fatalf("P19.1: Text(%q) = %q, %+v", s, told(ls), err)
			}
		}
	}
	wantTextError(t, g, strings.Repeat("x", 1<<24), api.Err{Code: api.ErrMost, At: -1})
}

func TestVeryDeepAndVeryWide(t *testing.T) {
	const n = 100000
	g := graphOf(t, rulesOf(t, example))
	for _, name := range []func(i int) string{func(int) string { return "v" }, strconv.Itoa} {
		first, second, left, right, deps := file("x"), node(api.QVar, name(n-1)), file("x"), file("x"), file("w")
		for i := range n {
			first = node(api.QLet, name(i), first, node(api.QVar, name(i)))
			second = node(api.QLet, name(n-1-i), file([]string{"y", "z"}[i%2]), second)
			left = node(api.QUnion, "", left, file("y"))
			right = node(api.QLess, "", file("y"), right)
			deps = api.Query{Kind: api.QDeps, N: i / (n - 2), Kids: []api.Query{deps}}
		}
		wantLabels(t, g, first, labelsOf("x"))
		wantLabels(t, g, second, labelsOf("y"))
		wantLabels(t, g, left, labelsOf("x y"))
		wantLabels(t, g, right, nil)
		wantLabels(t, g, right.Kids[1], labelsOf("y"))
		wantLabels(t, g, deps, labelsOf("u w y :c"))
	}
	wide := slices.Repeat([]api.Query{file("x"), file("y"), node(api.QWhole, "")}, n)
	wantLabels(t, g, node(api.QUnion, "", wide...), labelsOf("x y"))
	wantLabels(t, g, node(api.QDeps, "", wide...), labelsOf("x"))
	wantLabels(t, g, node(0, "", wide...), nil)
	wide[2*n] = file("none")
	wantError(t, g, node(api.QUnion, "", wide...), api.Err{Code: api.ErrScope})
}

// Kids that share memory count at each place where they stand.
func TestKidsThatShareMemory(t *testing.T) {
	a := askedOf(t, rulesOf(t, example))
	v := node(api.QUnion, "", node(api.QVar, "v"), file("u"))
	lets := []api.Query{node(api.QLet, "v", file("x"), v), node(api.QLet, "v", file("y"), v), node(api.QLet, "w", file("y"), v), v}
	for _, p := range lets {
		for _, q := range lets {
			for _, kind := range []int{api.QUnion, api.QMeet, api.QLess} {
				a.wantExpected(t, node(api.QLet, "v", file("z"), node(kind, "", p, q)))
				a.wantExpected(t, node(api.QLet, "v", p, node(kind, "", q, node(api.QLet, "v", q, p))))
			}
		}
	}
	// Each level stands twice in the one above, in the end more often than can be counted.
	union, less := v, v
	for i := range 200 {
		union = node(api.QUnion+i%2, "", union, union)
		less = node(api.QLess, "", less, node(api.QLess, "", less, less))
	}
	for _, q := range []api.Query{union, less, node(api.QLet, "w", union, less), node(api.QLet, "w", less, union)} {
		wantLabels(t, a.g, node(api.QLet, "v", file("x"), q), labelsOf("u x"))
		wantLabels(t, a.g, node(api.QMeet, "", node(api.QLet, "v", file("x"), q), node(api.QLet, "v", file("y"), q)), labelsOf("u"))
	}
}

// A query that holds itself denotes nothing, unless where that does not count.
func TestKidsThatHoldThemselves(t *testing.T) {
	g := graphOf(t, rulesOf(t, example))
	ring := []api.Query{node(api.QUnion, ""), file("x"), file("y")}
	ring[0].Kids = ring
	wantLabels(t, g, ring[0], nil)
	wantLabels(t, g, node(api.QUnion, "", file("x"), ring[0]), nil)
	wantLabels(t, g, node(api.QLet, "v", ring[0], node(api.QVar, "v")), nil)
	for _, kind := range []int{api.QUnion, api.QMeet, api.QLess, api.QSome, api.QAll, api.QLet} {
		wantLabels(t, g, node(kind, "", ring[0], file("x")), nil)
		wantLabels(t, g, node(kind, "", file("x"), ring[0]), nil)
	}
	wantLabels(t, g, node(api.QUnion, "", file("x"), file("y"), ring[0]), labelsOf("x y"))
	for _, kind := range []int{api.QDeps, api.QRdeps, api.QFilter} {
		wantLabels(t, g, node(kind, "", ring[0]), nil)
		wantLabels(t, g, node(kind, "", file("w"), ring[0]), labelsOf("w"))
	}
	leaf := api.Query{Kind: api.QLabel, Label: api.Label{Name: "x"}, Kids: ring}
	wantLabels(t, g, leaf, labelsOf("x"))
	wantLabels(t, g, node(api.QLet, "v", leaf, node(api.QVar, "v", ring...)), labelsOf("x"))
	wantLabels(t, g, node(api.QMeet, "", leaf, node(api.QWhole, "", ring...)), labelsOf("x"))
	wantLabels(t, g, node(0, "", ring...), nil)
	r := rand.New(rand.NewPCG(19, 1))
	for i := range 2000 {
		lists := make([][]api.Query, 1+i%9)
		for j := range lists {
			lists[j] = make([]api.Query, 1+r.IntN(4))
		}
		for _, l := range lists {
			for k := range l {
				l[k] = node(oneOf(r, api.QLet, api.QLet, api.QUnion, api.QDeps, api.QSome, r.IntN(16)-1), strconv.Itoa(r.IntN(4)), oneOf(r, lists...)...)
				l[k].Label.Name = "x"
			}
		}
		q := lists[0][0]
		for _, name := range []string{"0", "1", "2", "3"} {
			q = node(api.QLet, name, file("w"), q)
		}
		first, err := eval.Query(g, q)
		if again, errAgain := eval.Query(g, q); err != errAgain || !slices.Equal(first, again) {
			t.Errorf("P0.5: %q, %+v, and then %q, %+v", told(first), err, told(again), errAgain)
		}
	}
}

// roomy is q with room behind each list of Kids, in which something stands.
func roomy(q api.Query) api.Query {
	kids := make([]api.Query, 0, len(q.Kids)+3)
	for _, k := range q.Kids {
		kids = append(kids, roomy(k))
	}
	q.Kids = append(kids, file("z"), node(api.QVar, "room"), node(api.QWhole, ""))[:len(q.Kids)]
	return q
}

// withRoom is q, with what stands in the room behind its Kids among them, in new memory.
func withRoom(q api.Query) api.Query {
	var kids []api.Query
	for _, k := range q.Kids[:cap(q.Kids)] {
		kids = append(kids, withRoom(k))
	}
	q.Kids = kids
	return q
}

// What is passed in stays as it was, and what stands behind it in memory too; that is not read.
func TestWhatIsPassedInStays(t *testing.T) {
	r := rand.New(rand.NewPCG(19, 2))
	a := askedOf(t, rulesOf(t, example))
	for i := range 400 {
		q := roomy(a.madeUp(r, 1+i%5, nil, i%2 > 0))
		before := withRoom(q)
		a.wantExpected(t, q)
		if !reflect.DeepEqual(withRoom(q), before) {
			t.Errorf("P0.3: %s is changed", show(before))
		}
	}
	if !slices.Equal(a.g.All(), labelsOf("s u v w x y z :a :b :c :d")) {
		t.Errorf("P0.3: the graph is changed: %q", told(a.g.All()))
	}
	ls := append(labelsOf("b :a x"), labelsOf("room :room")...)
	wantPrint(t, "b\n:a\n", ls[:2]...)
	if told(ls) != "b :a x room :room" {
		t.Errorf("P0.3: Print changes what is passed in: %q", told(ls))
	}
}

// queriesForChanges are queries of which each answers with what it has from elsewhere: the query, a name, the graph, another layer.
func queriesForChanges() []string {
	return []string{
		"x", ":a", "all()", "let a = x in $a", "let a = all() in $a", "let a = x in x", "let a = somepath(w, s) in $a", "let a = all() in let b = $a in $b", "somepath(w, s)", "allpaths(w, s)", "deps(w)", "deps(x + y, 0)", "rdeps(x)",
		"x + y", "x + (y - y)", "all() ^ all()", "all() - x", "x - x", "kind(rule, all())", "kind(source, all())", `filter("", all())`, `filter("none", all())`, "somepath(x - x, y)", "let a = x - x in $a",
	}
}

// What is done to an answer, and to the room behind it, is seen in no other answer, and not in what was passed in.
func TestAnswersAreTheCallersOwn(t *testing.T) {
	g := graphOf(t, rulesOf(t, example))
	all := g.All()
	for _, s := range queriesForChanges() {
		q := roomy(parsed(t, s))
		before := withRoom(q)
		first, _ := eval.Query(g, q)
		second, _ := eval.Query(g, q)
		want := slices.Clone(first)
		room := first[:cap(first)]
		for i := range room {
			room[i] = api.Label{Rule: true, Name: "changed"}
		}
		_ = append(first, labelsOf("over over")...)
		if !slices.Equal(second, want) || !reflect.DeepEqual(withRoom(q), before) || !slices.Equal(g.All(), all) {
			t.Errorf("P0.3: the answer to %q is not the caller's own: %q", s, told(second))
		}
		changed := slices.Clone(room)
		for _, other := range queriesForChanges() {
			if _, err := eval.Text(g, other); err.Code != api.OK {
				t.Errorf("P19.1: Text of %q: %+v", other, err)
			}
		}
		wantText(t, g, s, told(want))
		wantLabels(t, g, q, want)
		if !slices.Equal(room, changed) {
			t.Errorf("P0.3: a later call changes the answer to %q", s)
		}
	}
}

// A change of what was passed in is seen in later answers alone, and in these it is seen.
func TestWhatIsPassedInIsNotKept(t *testing.T) {
	g := graphOf(t, rulesOf(t, example))
	q := parsed(t, "let a = x in $a + y")
	first, _ := eval.Query(g, q)
	q.Kids[0].Label.Name = "w"
	second, _ := eval.Query(g, q)
	q.Kids[1].Kids[1] = node(api.QRdeps, "", file("u"))
	q.Kids[1].Kind = api.QLess
	wantLabels(t, g, q, nil)
	q.Kids[1].Kids[0].Name = "b"
	wantError(t, g, q, api.Err{Code: api.ErrScope, At: 13})
	if told(first) != "x y" || told(second) != "w y" {
		t.Errorf("P0.3: what is passed in is kept: %q, %q", told(first), told(second))
	}
	ls := labelsOf("b :a")
	text := eval.Print(ls...)
	ls[0].Name, ls[1].Rule = "c", false
	wantPrint(t, "c\na\n", ls...)
	if text != "b\n:a\n" {
		t.Errorf("P0.3: Print keeps what is passed in: %q", text)
	}
}

// The same calls have the same answers, in any order and of any graph.
func TestCallsTellTheSameAgain(t *testing.T) {
	texts := append(queriesForChanges(), "none", "x +", "$a", "let a = $a in x", "deps(none)")
	g, other := graphOf(t, rulesOf(t, example)), graphOf(t, rulesOf(t, twins))
	type answer struct {
		labels string
		err    api.Err
	}
	answers := func(s string) []answer {
		a, aErr := eval.Text(g, s)
		b, bErr := eval.Text(other, s)
		c, cErr := eval.Text(nil, s)
		return []answer{{told(a), aErr}, {told(b), bErr}, {told(c), cErr}}
	}
	first := make(map[string][]answer)
	for _, s := range texts {
		first[s] = answers(s)
	}
	for range 10 {
		slices.Reverse(texts)
		for _, s := range texts {
			if !slices.Equal(answers(s), first[s]) {
				t.Errorf("P0.5: other answers to %q", s)
			}
		}
	}
}
