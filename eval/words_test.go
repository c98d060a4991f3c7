package eval_test

import (
	"maps"
	"math/rand/v2"
	"slices"
	"strings"
	"testing"

	"shipwright/api"
	"shipwright/ask"
	"shipwright/eval"
	"shipwright/graph"
	"shipwright/scope"
)

// model is rules, of which it is told what the chapters say in their words, rule by rule.
type model struct {
	needs map[api.Label][]api.Label
	made  map[api.Label]struct{}
}

func modelOf(rs []api.Rule) model {
	m := model{make(map[api.Label][]api.Label), make(map[api.Label]struct{})}
	for _, r := range rs {
		l := api.Label{Rule: true, Name: r.Name}
		m.needs[l] = nil
		for _, in := range r.Ins {
			m.needs[l] = append(m.needs[l], api.Label{Name: in})
			m.needs[api.Label{Name: in}] = append(m.needs[api.Label{Name: in}], nil...)
		}
		for _, out := range r.Outs {
			m.needs[api.Label{Name: out}] = []api.Label{l}
			m.made[api.Label{Name: out}] = struct{}{}
		}
	}
	return m
}

// all returns all labels, in ascending order.
func (m model) all() []api.Label {
	return slices.SortedFunc(maps.Keys(m.needs), compare)
}

// those returns the labels of which f holds.
func (m model) those(f func(l api.Label) bool) []api.Label { return only(m.all(), f) }

// deps returns ls, and what is reached from there by at most far needs, or by any number if far is negative.
func (m model) deps(ls []api.Label, far int) []api.Label {
	if far == 0 || len(ls) == 0 {
		return ls
	}
	var next []api.Label
	for _, l := range ls {
		next = append(next, m.needs[l]...)
	}
	return slices.Concat(ls, m.deps(next, far-1))
}

// rdeps returns the labels from which one of ls is reached.
func (m model) rdeps(ls []api.Label) []api.Label {
	return m.those(func(from api.Label) bool {
		return slices.ContainsFunc(m.deps([]api.Label{from}, -1), func(l api.Label) bool { return slices.Contains(ls, l) })
	})
}

// paths returns all paths that begin with p and end with one of to.
func (m model) paths(p, to []api.Label) [][]api.Label {
	var all [][]api.Label
	if slices.Contains(to, p[len(p)-1]) {
		all = append(all, p)
	}
	for _, next := range m.needs[p[len(p)-1]] {
		all = append(all, m.paths(append(slices.Clone(p), next), to)...)
	}
	return all
}

// between returns all paths from one of from to one of to, shorter ones first, and those of one length by their labels.
func (m model) between(from, to []api.Label) [][]api.Label {
	var all [][]api.Label
	for _, l := range from {
		all = append(all, m.paths([]api.Label{l}, to)...)
	}
	slices.SortFunc(all, func(p, q []api.Label) int {
		if len(p) != len(q) {
			return len(p) - len(q)
		}
		return slices.CompareFunc(p, q, compare)
	})
	return all
}

// some returns the first of the paths from one of from to one of to, or nil.
func (m model) some(from, to []api.Label) []api.Label {
	for _, p := range m.between(from, to) {
		return p
	}
	return nil
}

// kind returns the name of the kind of l.
func (m model) kind(l api.Label) string {
	if l.Rule {
		return "rule"
	}
	if _, isMade := m.made[l]; isMade {
		return "made"
	}
	return "source"
}

// compare compares labels: files come before rules, and names are in the order of their bytes.
func compare(a, b api.Label) int {
	switch {
	case a.Rule == b.Rule:
		return strings.Compare(a.Name, b.Name)
	case a.Rule:
		return 1
	}
	return -1
}

// ascending returns ls in ascending order, each once.
func ascending(ls []api.Label) []api.Label {
	ls = slices.Clone(ls)
	slices.SortFunc(ls, compare)
	return slices.Compact(ls)
}

// only returns those of ls of which f holds.
func only(ls []api.Label, f func(l api.Label) bool) []api.Label {
	var those []api.Label
	for _, l := range ls {
		if f(l) {
			those = append(those, l)
		}
	}
	return those
}

// step is a way from a node to one of its Kids.
type step struct {
	from api.Query
	kid  int
}

// denotes returns what q denotes where the way leads to, line by line of the chapter's table; a Kid that lacks denotes
// nothing.
func (m model) denotes(q api.Query, way []step) []api.Label {
	kid := func(i int) []api.Label {
		if i >= len(q.Kids) {
			return nil
		}
		return m.denotes(q.Kids[i], append(slices.Clone(way), step{q, i}))
	}
	switch q.Kind {
	case api.QLabel:
		return []api.Label{q.Label}
	case api.QVar:
		return m.bound(q.Name, way)
	case api.QUnion:
		return slices.Concat(kid(0), kid(1))
	case api.QMeet:
		second := kid(1)
		return only(kid(0), func(l api.Label) bool { return slices.Contains(second, l) })
	case api.QLess:
		second := kid(1)
		return only(kid(0), func(l api.Label) bool { return !slices.Contains(second, l) })
	case api.QDeps:
		return ascending(m.deps(kid(0), q.N))
	case api.QRdeps:
		return m.rdeps(kid(0))
	case api.QSome:
		return m.some(kid(0), kid(1))
	case api.QAll:
		return ascending(slices.Concat(m.between(kid(0), kid(1))...))
	case api.QKind:
		return only(kid(0), func(l api.Label) bool { return m.kind(l) == q.Name })
	case api.QFilter:
		return only(kid(0), func(l api.Label) bool { return strings.Contains(l.Name, q.Name) })
	case api.QLet:
		return kid(1)
	case api.QWhole:
		return m.all()
	}
	return nil
}

// bound returns what the name denotes at the end of the way: what the first Kid of the last let of that name does, in
// whose second Kid that is.
func (m model) bound(name string, way []step) []api.Label {
	for i, s := range slices.Backward(way) {
		if s.from.Kind == api.QLet && s.from.Name == name && s.kid == 1 {
			return m.denotes(s.from.Kids[0], append(slices.Clone(way[:i]), step{s.from, 0}))
		}
	}
	return nil
}

// asked is rules, and what is known of them.
type asked struct {
	rs []api.Rule
	g  *graph.Graph
	m  model
}

func askedOf(t *testing.T, rs []api.Rule) asked {
	t.Helper()
	return asked{rs, graphOf(t, rs), modelOf(rs)}
}

// wantExpected fails unless Query of q is what the chapter's words say, and returns how many labels there are, or -1.
func (a asked) wantExpected(t *testing.T, q api.Query) int {
	t.Helper()
	if err := scope.Check(a.g, q); err.Code != api.OK {
		wantError(t, a.g, q, err)
		return -1
	}
	want := a.m.denotes(q, nil)
	if q.Kind != api.QSome {
		want = ascending(want)
	}
	wantLabels(t, a.g, q, want)
	return len(want)
}

// All queries of up to three levels, of some leaves and each kind of node.
func TestAllShortQueries(t *testing.T) {
	a := askedOf(t, rulesOf(t, `rule a { in s; out x, y; x = copy s; y = concat; } rule x { in x, t; out a; a = concat; }`))
	ones := []string{"deps(Q, 1)", "rdeps(Q)", "kind(made, Q)", `filter("a", Q)`}
	twos := []string{"(Q + R)", "(Q ^ R)", "(Q - R)", "somepath(Q, R)", "allpaths(Q, R)", "(let v = Q in R)"}
	leaves := []string{"a", ":a", "s", "$v", "all()"}
	texts := leaves
	for range 2 {
		below := texts
		texts = slices.Clone(leaves)
		for _, q := range below {
			for _, one := range ones {
				texts = append(texts, strings.Replace(one, "Q", q, 1))
			}
			for _, r := range below {
				for _, two := range twos {
					texts = append(texts, strings.Replace(strings.Replace(two, "R", r, 1), "Q", q, 1))
				}
			}
		}
	}
	counts := make(map[int]int)
	for _, s := range texts {
		counts[a.wantExpected(t, parsed(t, s))]++
		if t.Failed() {
			t.Fatalf("the query: %q", s)
		}
	}
	if len(texts) < 150000 || counts[-1] < 40000 || counts[0] < 20000 || counts[1] < 20000 || counts[4] < 1000 {
		t.Errorf("%d queries: %v", len(texts), counts)
	}
}

// oneOf returns one of l.
func oneOf[E any](r *rand.Rand, l ...E) E { return l[r.IntN(len(l))] }

// madeUp returns a query of at most so many levels, with these names bound around it. If it is wild, no text need
// denote it: its nodes are of any kind and have any number of Kids, and any names.
func (a asked) madeUp(r *rand.Rand, levels int, bound []string, wild bool) api.Query {
	q := api.Query{At: r.IntN(400), Kind: api.QUnion + r.IntN(api.QLet-api.QUnion+1), Name: oneOf(r, "u", "v", "w")}
	if r.IntN(3) == 0 {
		q.Kind = oneOf(r, api.QLet, api.QUnion)
	}
	kids := 2
	switch q.Kind {
	case api.QDeps:
		q.N, kids = oneOf(r, -1, -1, 0, 1, 2, 3, 4, 1000), 1
	case api.QRdeps:
		kids = 1
	case api.QKind:
		q.Name, kids = oneOf(r, "rule", "made", "source"), 1
	case api.QFilter:
		q.Name, kids = oneOf(r, "", "a", "b", "/", "a/b", ".o", ":"), 1
	}
	if levels == 1 || r.IntN(9) == 0 {
		q.Kind, kids = oneOf(r, api.QLabel, api.QLabel, api.QVar, api.QWhole), 0
		q.Label = oneOf(r, a.m.all()...)
		if len(bound) > 0 {
			q.Name = oneOf(r, bound...)
		} else if q.Kind == api.QVar {
			q.Kind = api.QLabel
		}
	}
	if wild {
		q.Kind = oneOf(r, q.Kind, q.Kind, q.Kind, q.Kind, q.Kind, q.Kind, q.Kind, r.IntN(16)-1, -1<<63, 1<<63-1)
		q.Name = oneOf(r, q.Name, q.Name, q.Name, q.Name, q.Name, "", "v", "Rule", ":", "\xff")
		q.N = oneOf(r, q.N, q.N, -7, 7, -1<<63, 1<<63-1)
		kids = oneOf(r, kids, kids, kids, kids, r.IntN(4))
		q.Label = oneOf(r, a.m.all()...)
	}
	for i := range kids {
		inner := bound
		if q.Kind == api.QLet && i == 1 {
			inner = append(slices.Clone(bound), q.Name)
		}
		if levels > 1 {
			q.Kids = append(q.Kids, a.madeUp(r, levels-1, inner, wild))
		}
	}
	return q
}

// anyRules returns at most n rules that are valid together, with at least one label; rules and files often have one name.
func anyRules(r *rand.Rand, n int) []api.Rule {
	names := strings.Fields("a b c d x y a/b b/a a.o b.o x/a B _ 1 9 z")
	r.Shuffle(len(names), func(i, j int) { names[i], names[j] = names[j], names[i] })
	ruleNames := slices.Clone(names[:n])
	slices.Reverse(names)
	known, files := names[:2:2], names[2:]
	var rs []api.Rule
	for i := range 1 + r.IntN(n) {
		rule := api.Rule{Name: ruleNames[i]}
		for range min(len(files), 1+r.IntN(3)) {
			rule.Outs = append(rule.Outs, files[0])
			rule.Steps = append(rule.Steps, api.Step{Out: files[0], Op: api.CConcat})
			files = files[1:]
		}
		if len(rule.Outs) == 0 {
			break
		}
		for _, in := range known {
			if r.IntN(3) == 0 && len(rule.Ins) < api.MaxIns {
				rule.Ins = append(rule.Ins, in)
			}
		}
		known = append(known, rule.Outs...)
		rs = append(rs, rule)
	}
	r.Shuffle(len(rs), func(i, j int) { rs[i], rs[j] = rs[j], rs[i] })
	return rs
}

// Made-up queries of made-up rules, as queries and as texts.
func TestMadeUpQueries(t *testing.T) {
	counts, texts := make(map[int]int), 0
	for seed := range uint64(400) {
		r := rand.New(rand.NewPCG(19, seed))
		a := askedOf(t, anyRules(r, 6))
		for i := range 60 {
			q := a.madeUp(r, 1+i%6, nil, i%4 == 0)
			counts[a.wantExpected(t, q)]++
			want, wantErr := eval.Query(a.g, q)
			s := ask.Put(q)
			if i%4 == 0 || len(s) > api.MaxAsk {
				continue
			}
			if got, err := eval.Text(a.g, s); err != wantErr || !slices.Equal(got, want) {
				t.Errorf("P19.1: Text of %q = %q, %+v, not %q, %+v", s, told(got), err, told(want), wantErr)
			}
			texts++
		}
		if t.Failed() {
			t.Fatalf("the rules: %+v", a.rs)
		}
	}
	if counts[-1] < 400 || counts[0] < 3000 || counts[1] < 1500 || counts[4] < 500 || counts[9] < 100 || texts < 10000 {
		t.Errorf("the made-up queries are lopsided: %v, %d", counts, texts)
	}
}

// isThere reports whether there is all that q names where the way leads to.
func (a asked) isThere(q api.Query, way []step) bool {
	for i, kid := range q.Kids {
		if !a.isThere(kid, append(slices.Clone(way), step{q, i})) {
			return false
		}
	}
	switch q.Kind {
	case api.QLabel:
		_, isThere := a.m.needs[q.Label]
		return isThere
	case api.QVar:
		return slices.ContainsFunc(way, func(s step) bool {
			return s.from.Kind == api.QLet && s.from.Name == q.Name && s.kid == 1
		})
	}
	return true
}

// nearly returns s, mostly with a fault: words that changed places, another word, one word less, or another name.
func nearly(r *rand.Rand, s string) string {
	words := strings.Fields(strings.NewReplacer("(", "( ", ")", " )", ",", " ,").Replace(s))
	i, j := r.IntN(len(words)), r.IntN(len(words))
	switch r.IntN(8) {
	case 0:
		words[i], words[j] = words[j], words[i]
	case 1:
		words[i] = oneOf(r, "none", ":none", "$u", "all()", "+", "-", "(", ")", "3", "deps", "let", "=", "in", "!", "\"")
	case 2:
		words = slices.Delete(words, i, i+1)
	case 3, 4, 5:
		for !isItem(words[i]) {
			i = (i + 1) % len(words)
			if i == j {
				break
			}
		}
		words[i] = oneOf(r, "none", "x", ":x", ":none", "$u", "$none")
	}
	return strings.Join(words, " ")
}

// isItem reports whether a query may stand where the word does.
func isItem(word string) bool {
	return word[0] == ':' || word[0] == '$' || len(word) < 4 && !strings.ContainsAny(word, `()+-^,="`) && word != "in" && word != "let"
}

// W4: a text is rejected if it is no query, or if there is not what it names, and for nothing else; any other one denotes
// what the chapter says, and no other labels.
func TestNothingElseIsRejected(t *testing.T) {
	noQuery, notThere, answered := 0, 0, 0
	for seed := range uint64(300) {
		r := rand.New(rand.NewPCG(4, seed))
		a := askedOf(t, anyRules(r, 6))
		for i := range 40 {
			s := nearly(r, ask.Put(a.madeUp(r, 1+i%5, nil, false)))
			q, err := ask.Parse(s)
			got, gotErr := eval.Text(a.g, s)
			switch {
			case err.Code != api.OK:
				noQuery++
				if gotErr != err || got != nil {
					t.Errorf("W4: %q is no query: %q, %+v", s, told(got), gotErr)
				}
			case !a.isThere(q, nil):
				notThere++
				if gotErr.Code != api.ErrScope || got != nil {
					t.Errorf("W4: %q names what there is not: %q, %+v", s, told(got), gotErr)
				}
			default:
				answered++
				if want := ascending(a.m.denotes(q, nil)); gotErr != (api.Err{}) || !slices.Equal(ascending(got), want) || len(got) != len(want) {
					t.Errorf("W4: Text of %q = %q, %+v, not %q", s, told(got), gotErr, told(want))
				}
			}
		}
		if t.Failed() {
			t.Fatalf("the rules: %+v", a.rs)
		}
	}
	if noQuery < 2500 || notThere < 1500 || answered < 4000 {
		t.Errorf("the made-up texts are lopsided: %d, %d, %d", noQuery, notThere, answered)
	}
}
