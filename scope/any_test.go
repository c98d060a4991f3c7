package scope_test

import (
	"fmt"
	"math/rand/v2"
	"reflect"
	"slices"
	"strconv"
	"strings"
	"testing"

	"shipwright/api"
	"shipwright/ask"
	"shipwright/graph"
	"shipwright/scope"
)

// step is a way from a node to one of its Kids.
type step struct {
	from api.Query
	kid  int
}

// eachNode calls f with each node of q, and with all steps from q to it.
func eachNode(q api.Query, way []step, f func(q api.Query, way []step)) {
	f(q, way)
	for i, kid := range q.Kids {
		eachNode(kid, append(slices.Clone(way), step{q, i}), f)
	}
}

// isBound reports, in the chapter's words, whether a variable of that name is bound at the end of the way.
func isBound(name string, way []step) bool {
	return slices.ContainsFunc(way, func(s step) bool {
		return s.from.Kind == api.QLet && s.from.Name == name && s.kid == 1
	})
}

// expected returns what Check and Free of q are, in the chapter's words, for a graph that has the labels of ls.
func expected(ls []api.Label, q api.Query) (api.Err, []string) {
	var places []int
	var free []string
	eachNode(q, nil, func(q api.Query, way []step) {
		switch {
		case q.Kind == api.QVar && !isBound(q.Name, way):
			places = append(places, q.At)
			free = append(free, q.Name)
		case q.Kind == api.QLabel && !slices.Contains(ls, q.Label):
			places = append(places, q.At)
		}
	})
	slices.Sort(free)
	if len(places) == 0 {
		return api.Err{}, nil
	}
	return api.Err{Code: api.ErrScope, At: slices.Min(places)}, slices.Compact(free)
}

// wantExpected fails unless Check and Free of q are what the chapter's words say.
func wantExpected(t *testing.T, g *graph.Graph, ls []api.Label, q api.Query) {
	t.Helper()
	err, free := expected(ls, q)
	wantAnswers(t, g, q, show(q), err, free)
}

// labelsOf returns all labels of rules.
func labelsOf(rs []api.Rule) []api.Label {
	var ls []api.Label
	for _, r := range rs {
		ls = append(ls, api.Label{Rule: true, Name: r.Name})
		for _, name := range slices.Concat(r.Ins, r.Outs) {
			ls = append(ls, api.Label{Name: name})
		}
	}
	return ls
}

// All queries of up to three levels, of some leaves, two names, and one operator and one call.
func TestAllShortQueries(t *testing.T) {
	g, rs := graphOf(t, example)
	ls := labelsOf(rs)
	texts := []string{"$v", "$w", "x", "none"}
	leaves := len(texts)
	for range 2 {
		below := texts
		texts = slices.Clone(texts[:leaves])
		for _, a := range below {
			texts = append(texts, "deps("+a+")")
			for _, b := range below {
				texts = append(texts, "(let v = "+a+" in "+b+")", "(let w = "+a+" in "+b+")", "("+a+" - "+b+")")
			}
		}
	}
	if len(texts) < 9000 {
		t.Errorf("%d queries", len(texts))
	}
	for _, s := range texts {
		wantExpected(t, g, ls, parsed(t, s))
	}
}

// oneOf returns one of l.
func oneOf[E any](r *rand.Rand, l ...E) E { return l[r.IntN(len(l))] }

// madeUp returns a query of at most so many levels. If it is wild, no text need denote it: its nodes are of any kind and
// have any number of Kids, names and places.
func madeUp(r *rand.Rand, levels int, wild bool) api.Query {
	leaves, inner := []int{api.QVar, api.QVar, api.QLabel}, []int{api.QLet, api.QLet, api.QLet, api.QUnion, api.QMeet, api.QLess, api.QSome, api.QAll}
	q := api.Query{Kind: oneOf(r, inner...), Name: oneOf(r, "v", "w", "u"), At: r.IntN(20)}
	kids := 2
	if levels == 1 || r.IntN(8) == 0 {
		q.Kind = oneOf(r, leaves...)
		kids = 0
	}
	if wild {
		q.Kind = oneOf(r, api.QLet, q.Kind, q.Kind, r.IntN(16)-1)
		q.Name = oneOf(r, q.Name, q.Name, "", "a", "V", "vv")
		q.At = oneOf(r, q.At, -q.At, 1<<63-1, -1<<63)
		q.N = r.IntN(3) - 1
		kids = r.IntN(4)
	}
	if q.Kind == api.QLabel || wild && r.IntN(9) == 0 {
		q.Label = api.Label{Rule: r.IntN(2) > 0, Name: oneOf(r, "x", "x", "b", "a", "s", "none", "v")}
	}
	for range kids {
		if levels > 1 {
			q.Kids = append(q.Kids, madeUp(r, levels-1, wild))
		}
	}
	return q
}

func TestMadeUpQueries(t *testing.T) {
	r := rand.New(rand.NewPCG(18, 1))
	rows := []string{example, "rule x { out v; v = concat; }", "rule a { in a; out b; b = concat; } rule v { in b, x; out s; s = concat; }"}
	for _, text := range rows {
		g, rs := graphOf(t, text)
		for i := range 6000 {
			wantExpected(t, g, labelsOf(rs), madeUp(r, 1+i%7, i%2 > 0))
		}
	}
}

// A made-up query is asked as what Parse makes of its text.
func TestMadeUpTexts(t *testing.T) {
	r := rand.New(rand.NewPCG(18, 2))
	g, rs := graphOf(t, example)
	asked := 0
	for i := range 3000 {
		q, err := ask.Parse(ask.Put(madeUp(r, 1+i%6, false)))
		if err.Code == api.OK {
			asked++
			wantExpected(t, g, labelsOf(rs), q)
		}
	}
	if asked < 2000 {
		t.Errorf("%d queries asked", asked)
	}
}

// Nodes of unknown kinds, and with too few or too many Kids: each QVar and each QLabel counts, wherever it stands, and
// a let binds in its second Kid, and in no other one.
func TestAnyNodes(t *testing.T) {
	g, rs := graphOf(t, example)
	ls := labelsOf(rs)
	leaf := func(kind int, name string, at int) api.Query {
		return api.Query{Kind: kind, At: at, Name: name, Label: api.Label{Name: name}}
	}
	for _, kind := range []int{-1 << 63, -1, 0, 1, 2, 3, 4, 5, 6, 7, 8, 9, 10, 11, 12, 13, 14, 1000, 1<<63 - 1} {
		for n := range 6 {
			for at := range n + 1 {
				for _, l := range []api.Query{leaf(api.QVar, "v", 7), leaf(api.QLabel, "v", 7), leaf(api.QLabel, "x", 7), leaf(0, "v", 7), leaf(99, "none", 7)} {
					kids := make([]api.Query, n)
					if at < n {
						kids[at] = l
					}
					for _, name := range []string{"v", "", "x"} {
						wantExpected(t, g, ls, api.Query{Kind: kind, At: 9, Name: name, Kids: kids})
						wantExpected(t, g, ls, api.Query{Kind: kind, At: 5, Name: name, Label: api.Label{Name: "x"}, Kids: kids})
						wantExpected(t, nil, nil, api.Query{Kind: kind, At: 5, Name: name, Kids: []api.Query{{Kind: api.QLet, Name: "v", Kids: kids}}})
					}
				}
			}
		}
	}
	for _, name := range []string{"", "v", "\x00", "\xff\xfe", ":", "$v", strings.Repeat("n", 100000)} {
		let := func(bound string) api.Query {
			return api.Query{Kind: api.QLet, Name: bound, Kids: []api.Query{{Kind: api.QWhole}, leaf(api.QVar, name, 3)}}
		}
		wantAnswers(t, g, let(name), "a let", api.Err{}, nil)
		wantAnswers(t, g, let(name+"x"), "a let of another name", api.Err{Code: api.ErrScope, At: 3}, []string{name})
		wantAnswers(t, g, leaf(api.QLabel, name, 3), "a label", api.Err{Code: api.ErrScope, At: 3}, nil)
	}
}

func TestVeryDeepAndVeryWide(t *testing.T) {
	const n = 100000
	g, _ := graphOf(t, example)
	x := api.Query{Kind: api.QLabel, Label: api.Label{Name: "x"}}
	for _, name := range []func(i int) string{func(int) string { return "v" }, strconv.Itoa} {
		last := func(name string) api.Query { return api.Query{Kind: api.QVar, At: 4, Name: name} }
		first, second, free, sum := last(name(0)), last(name(0)), last("w"), last("w")
		for i := range n {
			first = api.Query{Kind: api.QLet, Name: name(i), Kids: []api.Query{first, x}}
			second = api.Query{Kind: api.QLet, Name: name(i), Kids: []api.Query{x, second}}
			free = api.Query{Kind: api.QLet, Name: name(i), Kids: []api.Query{x, free}}
			sum = api.Query{Kind: api.QUnion, Kids: []api.Query{sum, x}}
		}
		err := api.Err{Code: api.ErrScope, At: 4}
		wantAnswers(t, g, first, "very deep first Kids", err, []string{name(0)})
		wantAnswers(t, g, second, "very deep second Kids", api.Err{}, nil)
		wantAnswers(t, g, free, "very deep second Kids", err, []string{"w"})
		wantAnswers(t, g, sum, "a very deep sum", err, []string{"w"})
	}
	wide := api.Query{Kids: make([]api.Query, n)}
	var names []string
	for i := range wide.Kids {
		names = append(names, fmt.Sprintf("%06d", i))
		wide.Kids[n-1-i] = api.Query{Kind: api.QVar, At: n - i, Name: names[i]}
	}
	wantAnswers(t, g, wide, "a very wide query", api.Err{Code: api.ErrScope, At: 1}, names)
}

// sharing returns a query of so many levels, in which Kids of several nodes share memory: each node's Kids are nodes
// of the level below, of which there are few.
func sharing(r *rand.Rand, levels int) api.Query {
	below := [][]api.Query{nil}
	for range levels {
		var level [][]api.Query
		for range 3 {
			kids := make([]api.Query, 1+r.IntN(3))
			for i := range kids {
				kids[i] = api.Query{Kind: oneOf(r, api.QLet, api.QLet, api.QVar, api.QLabel, api.QUnion), At: r.IntN(99), Name: oneOf(r, "u", "v", "w"), Kids: oneOf(r, below...)}
				kids[i].Label.Name = oneOf(r, "x", "x", "x", "x", "none")
			}
			level = append(level, kids, kids[:r.IntN(len(kids)+1)], kids[r.IntN(len(kids)):])
		}
		below = level
	}
	return api.Query{Kind: api.QLet, Name: "v", Kids: below[0]}
}

// Kids that share memory count at each place where they stand.
func TestKidsThatShareMemory(t *testing.T) {
	r := rand.New(rand.NewPCG(18, 3))
	g, rs := graphOf(t, example)
	for i := range 3000 {
		wantExpected(t, g, labelsOf(rs), sharing(r, 1+i%5))
	}
	// Each level stands twice in the one above, in the end more often than can be counted.
	inside := api.Query{Kind: api.QVar, At: 3, Name: "0"}
	free, bound := inside, inside
	const levels = 200
	for i := range levels {
		name := strconv.Itoa(i % 100)
		free = api.Query{Kind: api.QLet, Name: name, Kids: []api.Query{free, free}}
		bound = api.Query{Kind: api.QMeet, Name: name, Kids: []api.Query{bound, bound}}
	}
	wantAnswers(t, g, free, "many lets", api.Err{Code: api.ErrScope, At: 3}, []string{"0"})
	wantAnswers(t, g, bound, "many meets", api.Err{Code: api.ErrScope, At: 3}, []string{"0"})
	for _, name := range []string{"0", "1"} {
		err, names := expected(nil, api.Query{Kind: api.QLet, Name: name, Kids: []api.Query{{}, inside}})
		wantAnswers(t, g, api.Query{Kind: api.QLet, Name: name, Kids: []api.Query{{}, bound}}, "a let of many meets", err, names)
	}
}

// lets returns of in lets of names, the first of them outermost.
func lets(names []string, of api.Query) api.Query {
	for _, name := range slices.Backward(names) {
		of = api.Query{Kind: api.QLet, Name: name, Kids: []api.Query{{Kind: api.QWhole}, of}}
	}
	return of
}

// The same Kids within other lets: a name is free if it is so in one of the two places, and bound if it is so in both.
func TestKidsInTwoPlaces(t *testing.T) {
	shared := api.Query{Kind: api.QUnion, Kids: []api.Query{{Kind: api.QVar, At: 1, Name: "a"}, {Kind: api.QVar, At: 2, Name: "b"}, {Kind: api.QVar, At: 3, Name: "c"}}}
	lists := [][]string{nil}
	for i := 0; len(lists[i]) < 3; i++ {
		for _, name := range []string{"a", "b", "c"} {
			lists = append(lists, append(slices.Clone(lists[i]), name))
		}
	}
	for _, a := range lists {
		for _, b := range lists {
			q := api.Query{Kind: api.QMeet, Kids: []api.Query{lets(a, shared), lets(b, shared)}}
			wantExpected(t, nil, nil, q)
			q.Kids[0].Kids = append(slices.Clone(q.Kids[0].Kids), api.Query{Kids: shared.Kids[1:]})
			wantExpected(t, nil, nil, q)
		}
	}
}

// Kids that hold what holds them bring no call into a circle.
func TestKidsThatHoldThemselves(t *testing.T) {
	r := rand.New(rand.NewPCG(18, 4))
	g, _ := graphOf(t, example)
	for i := range 500 {
		lists := make([][]api.Query, 1+i%9)
		for j := range lists {
			lists[j] = make([]api.Query, 1+r.IntN(4))
		}
		for _, l := range lists {
			for k := range l {
				l[k] = api.Query{Kind: oneOf(r, api.QLet, api.QLet, api.QVar, api.QUnion), At: 1, Name: strconv.Itoa(r.IntN(4)), Kids: oneOf(r, lists...)}
			}
		}
		q := api.Query{Kind: api.QLet, Name: "0", Kids: lists[0]}
		err, free := scope.Check(g, q), scope.Free(q)
		if scope.Check(g, q) != err || !slices.Equal(scope.Free(q), free) || err.Code == api.OK != (len(free) == 0) {
			t.Errorf("P0.5: %+v, %q of Kids that hold themselves", err, free)
		}
	}
}

// roomy is q with room behind each list of Kids, in which something stands.
func roomy(q api.Query) api.Query {
	kids := make([]api.Query, 0, len(q.Kids)+3)
	for _, k := range q.Kids {
		kids = append(kids, roomy(k))
	}
	room := api.Query{Kind: api.QVar, At: -9, Name: "room"}
	q.Kids = append(kids, room, api.Query{Kind: api.QLabel, At: -9, Label: api.Label{Name: "room"}}, room)[:len(q.Kids)]
	return q
}

// withRoom is q, with what stands in the room behind its Kids among them, in new memory.
func withRoom(q api.Query) api.Query {
	var kids []api.Query
	for _, k := range q.Kids[:cap(q.Kids)] {
		kids = append(kids, withRoom(k))
	}
	q.Kids = kids
	return q
}

// What is passed in stays as it was, and what stands behind it in memory too; that is not asked for.
func TestWhatIsPassedInStays(t *testing.T) {
	r := rand.New(rand.NewPCG(18, 5))
	g, rs := graphOf(t, example)
	all := g.All()
	for i := range 300 {
		q := roomy(madeUp(r, 1+i%5, i%2 > 0))
		before := withRoom(q)
		wantExpected(t, g, labelsOf(rs), q)
		if !reflect.DeepEqual(withRoom(q), before) {
			t.Errorf("P0.3: %s is changed", show(before))
		}
	}
	if !slices.Equal(g.All(), all) {
		t.Errorf("P0.3: the graph is changed: %v", g.All())
	}
}

// A change of what was passed in is seen in later answers alone, and in these it is seen.
func TestWhatIsPassedInIsNotKept(t *testing.T) {
	g, _ := graphOf(t, example)
	q := parsed(t, "let v = $a in deps($v) + none - $b")
	err, free := scope.Check(g, q), scope.Free(q)
	change := func(n *api.Query, name string) { n.Name, n.Label.Name = name, name }
	change(&q.Kids[0], "c")
	wantAnswers(t, g, q, "a changed query", err, []string{"b", "c"})
	change(&q, "b")
	wantAnswers(t, g, q, "a changed query", err, []string{"c", "v"})
	change(&q.Kids[0], "b")
	change(&q.Kids[1].Kids[0].Kids[0].Kids[0], "b")
	wantAnswers(t, g, q, "a changed query", err, []string{"b"})
	q.Kids[0] = api.Query{Kind: api.QWhole}
	wantAnswers(t, g, q, "a changed query", api.Err{Code: api.ErrScope, At: q.Kids[1].Kids[0].Kids[1].At}, nil)
	change(&q.Kids[1].Kids[0].Kids[1], "x")
	wantAnswers(t, g, q, "a changed query", api.Err{}, nil)
	if err != (api.Err{Code: api.ErrScope, At: 8}) || !slices.Equal(free, []string{"a", "b"}) {
		t.Errorf("P0.3: what was passed in is kept: %+v, %q", err, free)
	}
}

// What is done to an answer, and to the room behind it, is seen in no other answer, and not in what was passed in.
func TestAnswersAreTheCallersOwn(t *testing.T) {
	for n := range 12 {
		q := api.Query{Kind: api.QUnion}
		var want []string
		for i := range n {
			want = append(want, string(rune('a'+i)))
			q.Kids = append(q.Kids, api.Query{Kind: api.QVar, Name: want[i]})
		}
		before := withRoom(q)
		first, second := scope.Free(q), scope.Free(q)
		all := first[:cap(first)]
		for i := range all {
			all[i] = "other"
		}
		_ = append(first, "over", "over")
		if !slices.Equal(second, want) || !reflect.DeepEqual(withRoom(q), before) {
			t.Errorf("P0.3: an answer of %d names is not the caller's own", n)
		}
		room := slices.Clone(all)
		wantAnswers(t, nil, q, show(q), errOf(n), want)
		if !slices.Equal(all, room) {
			t.Errorf("P0.3: a later call changes an answer of %d names", n)
		}
	}
}

// errOf is the error of n variables that are free at 0.
func errOf(n int) api.Err {
	if n == 0 {
		return api.Err{}
	}
	return api.Err{Code: api.ErrScope}
}
