package trail_test

import (
	"cmp"
	"fmt"
	"math"
	"math/rand/v2"
	"reflect"
	"slices"
	"strings"
	"testing"

	"shipwright/api"
	"shipwright/check"
	"shipwright/graph"
	"shipwright/parse"
	"shipwright/trail"
)

func file(name string) api.Label { return api.Label{Name: name} }

func rule(name string) api.Label { return api.Label{Rule: true, Name: name} }

// labelsOf returns the labels that words tell: one with a colon ahead a rule's, any other one a file's.
func labelsOf(words string) []api.Label {
	var ls []api.Label
	for _, word := range strings.Fields(words) {
		name, isRule := strings.CutPrefix(word, ":")
		ls = append(ls, api.Label{Rule: isRule, Name: name})
	}
	return ls
}

// told tells labels by words.
func told(ls []api.Label) string {
	var words []string
	for _, l := range ls {
		if l.Rule {
			words = append(words, ":"+l.Name)
		} else {
			words = append(words, l.Name)
		}
	}
	return strings.Join(words, " ")
}

// toldAll tells lists of labels by words.
func toldAll(lists [][]api.Label) []string {
	var all []string
	for _, ls := range lists {
		all = append(all, told(ls))
	}
	return all
}

// rulesOf returns the rules of a rule file.
func rulesOf(t *testing.T, text string) []api.Rule {
	t.Helper()
	rs, err := parse.File(text)
	if err.Code != api.OK {
		t.Fatalf("parse.File(%q) = %+v", text, err)
	}
	return rs
}

// graphOf returns the graph of rules, which is not nil.
func graphOf(t *testing.T, rs []api.Rule) *graph.Graph {
	t.Helper()
	g := graph.New(rs...)
	if g == nil {
		code, name := check.All(rs)
		t.Fatalf("graph.New of %.900s = nil: %d, %q", fmt.Sprintf("%+v", rs), code, name)
	}
	return g
}

// ordersOf calls f with l in every order.
func ordersOf[E any](l []E, f func([]E)) {
	var place func(at int)
	place = func(at int) {
		if at == len(l) {
			f(slices.Clone(l))
			return
		}
		for i := at; i < len(l); i++ {
			l[at], l[i] = l[i], l[at]
			place(at + 1)
			l[at], l[i] = l[i], l[at]
		}
	}
	l = slices.Clone(l)
	place(0)
}

// wantSome fails unless Some of from and to is want: nil, if that has no labels.
func wantSome(t *testing.T, g *graph.Graph, from, to, want []api.Label) {
	t.Helper()
	got := trail.Some(g, from, to)
	if !slices.Equal(got, want) {
		t.Errorf("P16.1: Some of %.300q and %.300q = %q, not %q", told(from), told(to), told(got), told(want))
	}
	if len(want) == 0 && got != nil {
		t.Errorf("P16.1: Some of %.300q and %.300q is empty, but not nil", told(from), told(to))
	}
	wantIs(t, g, got, len(want) > 0)
}

// wantAll fails unless All of from and to is want.
func wantAll(t *testing.T, g *graph.Graph, from, to, want []api.Label) {
	t.Helper()
	if got := trail.All(g, from, to); !slices.Equal(got, want) {
		t.Errorf("P16.1: All of %.300q and %.300q = %q, not %q", told(from), told(to), told(got), told(want))
	}
}

// wantIs fails unless Is of p is want.
func wantIs(t *testing.T, g *graph.Graph, p []api.Label, want bool) {
	t.Helper()
	if got := trail.Is(g, p); got != want {
		t.Errorf("P16.1: Is of %.300q = %v", told(p), got)
	}
}

// wantMost fails unless Paths of a, b and most is want.
func wantMost(t *testing.T, g *graph.Graph, a, b api.Label, most int, want [][]api.Label) {
	t.Helper()
	got := trail.Paths(g, a, b, most)
	if !slices.EqualFunc(got, want, slices.Equal[[]api.Label]) {
		t.Errorf("P16.1: Paths of %+v, %+v and %d = %d: %.600q, not %d: %.600q", a, b, most, len(got), toldAll(got), len(want), toldAll(want))
	}
}

// wantPaths fails unless Paths of a and b are those of want, where most is at least their number, and else the first
// ones of these; want is all paths, or more than 200 of them.
func wantPaths(t *testing.T, g *graph.Graph, a, b api.Label, want [][]api.Label) {
	t.Helper()
	n := len(want)
	for _, most := range []int{math.MinInt, math.MinInt + 1, -201, -200, -2, -1, 0, 1, 2, 3, n - 1, n, n + 1, 199, 200, 201, 1000, 1 << 40, math.MaxInt - 1, math.MaxInt} {
		wantMost(t, g, a, b, most, want[:max(0, min(n, most, 200))])
	}
	for _, p := range trail.Paths(g, a, b, 200) {
		wantIs(t, g, p, true)
	}
}

// row is labels from which and to which there are to be paths, and what Some and All of them are to be.
type row struct{ from, to, some, all string }

// wantRows fails unless Some and All are what the rows say, whatever the order of the rules, and that of the labels.
func wantRows(t *testing.T, text string, rows ...row) {
	t.Helper()
	rs := rulesOf(t, text)
	for _, r := range rows {
		from, to := labelsOf(r.from), labelsOf(r.to)
		some, all := labelsOf(r.some), labelsOf(r.all)
		ordersOf(rs, func(rs []api.Rule) {
			t.Helper()
			g := graphOf(t, rs)
			wantSome(t, g, from, to, some)
			wantAll(t, g, from, to, all)
		})
		g := graphOf(t, rs)
		ordersOf(from, func(from []api.Label) {
			ordersOf(to, func(to []api.Label) {
				t.Helper()
				wantSome(t, g, from, to, some)
				wantAll(t, g, from, to, all)
			})
		})
	}
}

// ways is the two ends of paths, and all paths between them, in their order.
type ways struct {
	a, b  string
	paths []string
}

// wantWays fails unless Paths are what the rows say, whatever the order of the rules.
func wantWays(t *testing.T, text string, rows ...ways) {
	t.Helper()
	ordersOf(rulesOf(t, text), func(rs []api.Rule) {
		t.Helper()
		g := graphOf(t, rs)
		for _, r := range rows {
			var want [][]api.Label
			for _, p := range r.paths {
				want = append(want, labelsOf(p))
			}
			wantPaths(t, g, labelsOf(r.a)[0], labelsOf(r.b)[0], want)
		}
	})
}

// example is the chapter's.
const example = `rule a { in s; out x; x = copy s; }
rule b { in x, s; out y, z; y = copy x; z = copy s; }
rule c { in y, u; out w; after d; w = copy y; }
rule d { out v; after a; v = concat; }`

func TestExample(t *testing.T) {
	wantRows(t, example, row{"w", "s", "w :c y :b s", "s w x y :a :b :c"})
	wantWays(t, example, ways{"w", "s", []string{"w :c y :b s", "w :c y :b x :a s"}})
	wantIs(t, graphOf(t, rulesOf(t, example)), labelsOf("w y"), false)
}

func TestOneToAnother(t *testing.T) {
	wantRows(t, example,
		// One need, and more.
		row{"x", ":a", "x :a", "x :a"},
		row{":c", "u", ":c u", "u :c"},
		row{":b", "s", ":b s", "s x :a :b"},
		row{":b", ":a", ":b x :a", "x :a :b"},
		row{"z", "x", "z :b x", "x z :b"},
		row{"w", ":b", "w :c y :b", "w y :b :c"},
		row{"w", ":a", "w :c y :b x :a", "w x y :a :b :c"},
		row{"z", "s", "z :b s", "s x z :a :b"},
		row{"w", "u", "w :c u", "u w :c"},
		row{"v", ":d", "v :d", "v :d"},
		// A file that a rule makes beside another one is not on the way.
		row{"w", "x", "w :c y :b x", "w x y :b :c"},
	)
}

func TestItself(t *testing.T) {
	for _, l := range strings.Fields("s u v w x y z :a :b :c :d") {
		wantRows(t, example, row{l, l, l, l}, row{l + " " + l, l, l, l}, row{l, l + " none " + l, l, l})
		wantWays(t, example, ways{l, l, []string{l}})
		wantIs(t, graphOf(t, rulesOf(t, example)), labelsOf(l), true)
	}
}

func TestNoPath(t *testing.T) {
	for _, x := range []struct{ from, to string }{
		// Backward.
		{"s", "w"}, {"s", ":a"}, {":a", "x"}, {":b", "y"}, {"x", ":b"}, {"u", ":c"}, {":d", "v"},
		// Beside one another.
		{"y", "z"}, {"z", "y"}, {"s", "u"}, {"x", "u"}, {"z", "u"}, {"z", "w"}, {"v", "s"},
		// After counts for nothing.
		{"v", "x"}, {":d", ":a"}, {"w", ":d"}, {":c", "v"}, {"v", ":a"},
	} {
		wantRows(t, example, row{x.from, x.to, "", ""})
		wantWays(t, example, ways{x.from, x.to, nil})
	}
	wantRows(t, example,
		row{"s u :a", "w y z :b", "", ""},
		row{"y z", "u w v :d", "", ""},
		row{"s s", "u u", "", ""},
	)
}

func TestNoLabels(t *testing.T) {
	g := graphOf(t, rulesOf(t, example))
	for _, none := range [][]api.Label{nil, {}, make([]api.Label, 0, 3), labelsOf("w s")[:0]} {
		for _, some := range [][]api.Label{none, labelsOf("w"), labelsOf("s"), labelsOf("s u v w x y z :a :b :c :d"), labelsOf("none")} {
			wantSome(t, g, none, some, nil)
			wantSome(t, g, some, none, nil)
			wantAll(t, g, none, some, nil)
			wantAll(t, g, some, none, nil)
		}
		wantIs(t, g, none, false)
	}
}

// The shortest path counts, whatever the order of what is on a longer one.
func TestSomeIsAShortestOne(t *testing.T) {
	const text = `rule z { in s; out z; z = copy s; }
rule a { in a1, z; out t; t = copy z; }
rule b { in a2; out a1; a1 = copy a2; }
rule c { in s; out a2; a2 = copy s; }`
	wantRows(t, text,
		row{"t", "s", "t :a z :z s", "a1 a2 s t z :a :b :c :z"},
		row{":a", "s", ":a z :z s", "a1 a2 s z :a :b :c :z"},
		row{"t", "s a2", "t :a a1 :b a2", "a1 a2 s t z :a :b :c :z"},
		row{"t", "s :b", "t :a a1 :b", "a1 a2 s t z :a :b :c :z"},
		row{"t a1", "s", "a1 :b a2 :c s", "a1 a2 s t z :a :b :c :z"},
		row{"t a1 z", "s", "z :z s", "a1 a2 s t z :a :b :c :z"},
		row{"t a1", ":c z", "t :a z", "a1 a2 t z :a :b :c"},
	)
}

func TestSomeIsTheFirstOfSeveral(t *testing.T) {
	// What is smaller further on does not count where there was a difference ahead of it.
	const text = `rule t { in y, x; out t; t = copy x; }
rule z { in s, p; out x; x = copy s; }
rule a { in s, p; out y; y = copy s; }
rule q { in y, x; out q, r; q = copy x; r = copy y; }`
	wantRows(t, text,
		row{"t", "s", "t :t x :z s", "s t x y :a :t :z"},
		row{"t", "s p", "t :t x :z p", "p s t x y :a :t :z"},
		row{":t", "s", ":t x :z s", "s x y :a :t :z"},
		row{"y x", "s", "x :z s", "s x y :a :z"},
		row{":z :a", "s", ":a s", "s :a :z"},
		row{":z :a", "s p", ":a p", "p s :a :z"},
		row{"t q r", "s", "q :q x :z s", "q r s t x y :a :q :t :z"},
		row{":t r", "x y", ":t x", "r x y :q :t"},
		row{":t :q", "y x", ":q x", "x y :q :t"},
		row{":t :q", "y", ":q y", "y :q :t"},
		row{"t q", ":z :a", "q :q x :z", "q t x y :a :q :t :z"},
		row{"t q", ":a", "q :q y :a", "q t y :a :q :t"},
		row{":q", ":z :a", ":q x :z", "x y :a :q :z"},
		row{"x y", "x y", "x", "x y"},
		row{"x y", "y :z", "y", "x y :z"},
	)
}

// Files precede rules.
func TestSomeFromFilesAndRules(t *testing.T) {
	wantRows(t, example,
		row{":b x", ":a s", "x :a", "s x :a :b"},
		row{":a z", ":b s", "z :b", "s x z :a :b"},
		row{":a x", "s", ":a s", "s x :a"},
		row{":a s", "s", "s", "s :a"},
		row{":a s", "s :a", "s", "s :a"},
		row{":a :c w", ":a", ":a", "w x y :a :b :c"},
		row{"v :a", "s :d", "v :d", "s v :a :d"},
	)
}

func TestSeveral(t *testing.T) {
	wantRows(t, example,
		row{"w v", "s :d", "v :d", "s v w x y :a :b :c :d"},
		row{"y z", "x", "y :b x", "x y z :b"},
		row{"z w", "s u", "w :c u", "s u w x y z :a :b :c"},
		row{"z :c", "s", "z :b s", "s x y z :a :b :c"},
		row{"w v", "u", "w :c u", "u w :c"},
		row{"v u", "u :d", "u", "u v :d"},
		// One is on the way from another, or to another.
		row{"w y", "x", "y :b x", "w x y :b :c"},
		row{"w", "y s", "w :c y", "s w x y :a :b :c"},
		row{"w x", "x", "x", "w x y :b :c"},
		row{"y z", "z w", "z", "z"},
		// From each to each of some there is a path, but not from each to each.
		row{"z w", "u s", "w :c u", "s u w x y z :a :b :c"},
		row{"v z", ":d :b", "v :d", "v z :b :d"},
		// One is said twice.
		row{"w w", "s", "w :c y :b s", "s w x y :a :b :c"},
		row{"w", "s s s", "w :c y :b s", "s w x y :a :b :c"},
		row{"z y z y", "x s x", "y :b s", "s x y z :a :b"},
	)
}

func TestAll(t *testing.T) {
	// From t to s there are a short way and long ones; to the sources p and q one each, and aside, and from u, others.
	const text = `rule a { in s, p; out x, x2; x = copy s; x2 = copy p; }
rule b { in x; out y; y = copy x; }
rule c { in y, q; out z, z2; z = copy y; z2 = copy q; }
rule d { in z, s; out t; t = copy z; }
rule e { in z2, x2; out u; u = copy z2; }`
	wantRows(t, text,
		row{"t", "s", "t :d s", "s t x y z :a :b :c :d"},
		row{"t", "p", "t :d z :c y :b x :a p", "p t x y z :a :b :c :d"},
		row{"t", "q", "t :d z :c q", "q t z :c :d"},
		row{"t", "q x", "t :d z :c q", "q t x y z :b :c :d"},
		row{"t", ":b", "t :d z :c y :b", "t y z :b :c :d"},
		row{"u", "s", "u :e x2 :a s", "s u x x2 y z2 :a :b :c :e"},
		row{"u t", "s", "t :d s", "s t u x x2 y z z2 :a :b :c :d :e"},
		row{"u", "x", "u :e z2 :c y :b x", "u x y z2 :b :c :e"},
		row{"u", "x2", "u :e x2", "u x2 :e"},
		row{"u t", "x2", "u :e x2", "u x2 :e"},
		row{"u t", "z", "t :d z", "t z :d"},
		row{"z z2", "x", "z :c y :b x", "x y z z2 :b :c"},
	)
}

// Files stand ahead of rules, and names are in the order of their bytes.
func TestOrderOfNames(t *testing.T) {
	const text = `rule b { in z10, z9, Z, z; out top; top = concat; }
rule 9 { in a/b, a.b, B, a; out z9, Z; z9 = concat; Z = concat; }
rule 10 { in a, a/b, 9, 10; out z10, z; z10 = concat; z = concat; }
rule B { in s, S; out a, a.b, a/b, B; a = concat; a.b = concat; a/b = concat; B = concat; }`
	wantRows(t, text,
		row{"top", "s", "top :b Z :9 B :B s", "B Z a a.b a/b s top z z10 z9 :10 :9 :B :b"},
		row{"top", "s S", "top :b Z :9 B :B S", "B S Z a a.b a/b s top z z10 z9 :10 :9 :B :b"},
		row{"z9 z10 z", "s", "z :10 a :B s", "B a a.b a/b s z z10 z9 :10 :9 :B"},
		row{":b z9", "9 10 a", "z9 :9 a", "10 9 Z a z z10 z9 :10 :9 :b"},
		row{":9 :10 :B", "a", ":10 a", "a :10 :9"},
		row{":b :9", ":9 Z", ":9", "Z z9 :9 :b"},
		row{":10 10 9 :9", "9 :9 10", "10", "10 9 :10 :9"},
	)
	wantWays(t, text,
		ways{"top", ":9", []string{"top :b Z :9", "top :b z9 :9"}},
		ways{"top", "a", []string{"top :b Z :9 a", "top :b z :10 a", "top :b z10 :10 a", "top :b z9 :9 a"}},
		ways{"z9", "S", []string{"z9 :9 B :B S", "z9 :9 a :B S", "z9 :9 a.b :B S", "z9 :9 a/b :B S"}},
	)
}

func TestPaths(t *testing.T) {
	wantWays(t, example,
		ways{"x", ":a", []string{"x :a"}},
		ways{":b", "s", []string{":b s", ":b x :a s"}},
		ways{"z", "s", []string{"z :b s", "z :b x :a s"}},
		ways{":c", "s", []string{":c y :b s", ":c y :b x :a s"}},
		ways{"w", "u", []string{"w :c u"}},
		ways{"w", "x", []string{"w :c y :b x"}},
		ways{":d", ":d", []string{":d"}},
	)
}

// The first index at which paths differ counts, be they long or short.
func TestOrderOfPaths(t *testing.T) {
	wantWays(t, `rule t { in y, x, s, r; out t; t = copy s; }
rule b { in y, s; out r, x; r = copy y; x = copy s; }
rule a { in s; out y; y = copy s; }`,
		ways{"t", "s", []string{"t :t r :b s", "t :t r :b y :a s", "t :t s", "t :t x :b s", "t :t x :b y :a s", "t :t y :a s"}},
		ways{":t", "y", []string{":t r :b y", ":t x :b y", ":t y"}},
		ways{"t", ":a", []string{"t :t r :b y :a", "t :t x :b y :a", "t :t y :a"}},
		ways{"x", "s", []string{"x :b s", "x :b y :a s"}},
	)
	// The long ones first, or the short ones.
	wantWays(t, `rule t { in a, s; out t; t = copy s; }
rule x { in b, s; out a; a = copy s; }
rule y { in c, s; out b; b = copy s; }
rule z { in s; out c; c = copy s; }`,
		ways{"t", "s", []string{"t :t a :x b :y c :z s", "t :t a :x b :y s", "t :t a :x s", "t :t s"}})
	wantWays(t, `rule t { in x, s; out t; t = copy s; }
rule a { in y, s; out x; x = copy s; }
rule b { in z, s; out y; y = copy s; }
rule c { in s; out z; z = copy s; }`,
		ways{"t", "s", []string{"t :t s", "t :t x :a s", "t :t x :a y :b s", "t :t x :a y :b z :c s"}})
}

func TestIs(t *testing.T) {
	rs := rulesOf(t, example)
	paths := strings.Split("w,w :c,w :c y,w :c y :b,w :c y :b s,w :c y :b x :a s,:c y :b x,y :b x :a,:b s,:a s,s,z :b s,v :d,:d,w :c u", ",")
	none := []string{"w y", "w w", ":c :b", "w :c :b", "w :c w", "s :a", "x :b", ":b y", "y z", "s :a x", "y :b :a s", "w :c y :b u", "w :c x", ":c z", ":d :a", "v :a", ":c :d", "s s", ":a :a", "w :c y y :b", "w :c y :b s s", "w :c y :b s x", "z y :b s", "w :c s", ":b x s"}
	ordersOf(rs, func(rs []api.Rule) {
		t.Helper()
		g := graphOf(t, rs)
		for _, p := range paths {
			wantIs(t, g, labelsOf(p), true)
			if backward := labelsOf(p); len(backward) > 1 {
				slices.Reverse(backward)
				wantIs(t, g, backward, false)
			}
			// A label that the graph does not have is not ignored, wherever it stands.
			for at := range len(labelsOf(p)) + 1 {
				for _, l := range []api.Label{file("none"), rule("none"), file("a"), rule("x"), {}, {Rule: true}} {
					wantIs(t, g, slices.Insert(labelsOf(p), at, l), false)
				}
			}
		}
		for _, p := range none {
			wantIs(t, g, labelsOf(p), false)
		}
	})
	g := graphOf(t, rs)
	for _, p := range [][]api.Label{{file("none")}, {rule("none")}, {rule("w")}, {file("b")}, {{}}, {{Rule: true}}, {{}, {}}, {file("none"), file("none")}} {
		wantIs(t, g, p, false)
	}
}

// The graph has no file a and no rule x.
func TestLabelsThatTheGraphHasNot(t *testing.T) {
	for _, none := range strings.Fields("none :none a b :x :s S :A ::a aa w/ in : :rule") {
		wantRows(t, example,
			row{none, none, "", ""},
			row{none, "s", "", ""},
			row{"w", none, "", ""},
			row{none + " w", "s " + none, "w :c y :b s", "s w x y :a :b :c"},
			row{none + " q y", "q x " + none, "y :b x", "x y :b"},
			row{none + " v", none + " :a", "", ""},
		)
		wantWays(t, example, ways{none, none, nil}, ways{none, "s", nil}, ways{"w", none, nil})
	}
	g := graphOf(t, rulesOf(t, example))
	for _, none := range []api.Label{{}, {Rule: true}, file("\x00"), file("\xff"), file(strings.Repeat("w", 1<<20)), rule(":a"), file(" w"), file(":a")} {
		some := []api.Label{file("w"), none, rule("c")}
		wantSome(t, g, []api.Label{none}, []api.Label{none}, nil)
		wantAll(t, g, []api.Label{none}, []api.Label{none}, nil)
		wantSome(t, g, some, some, labelsOf("w"))
		wantAll(t, g, some, some, labelsOf("w :c"))
		wantPaths(t, g, none, none, nil)
		wantPaths(t, g, none, file("s"), nil)
		wantPaths(t, g, file("w"), none, nil)
		wantIs(t, g, some, false)
	}
}

func TestNoGraph(t *testing.T) {
	for _, g := range []*graph.Graph{nil, graph.New(api.Rule{}), {}, graph.New()} {
		for _, of := range []string{"w", ":c", "s u v w x y z :a :b :c :d", "w w", "", ":"} {
			ls := labelsOf(of)
			wantSome(t, g, ls, ls, nil)
			wantAll(t, g, ls, ls, nil)
			wantIs(t, g, ls, false)
			for _, l := range ls {
				wantPaths(t, g, l, l, nil)
				wantPaths(t, g, file("w"), l, nil)
			}
		}
		wantPaths(t, g, api.Label{}, api.Label{}, nil)
	}
}

// A rule and a file of one name are two labels.
func TestRuleAndFileOfOneName(t *testing.T) {
	const text = `rule a { in b; out c; c = copy b; }
rule b { in c, d; out a; after a; a = copy c; }
rule c { in a; out e; e = copy a; }
rule e { in e; out f; f = copy e; }`
	wantRows(t, text,
		row{"f", "b", "f :e e :c a :b c :a b", "a b c e f :a :b :c :e"},
		row{"e", ":e", "", ""},
		row{":e", "e", ":e e", "e :e"},
		row{"a", ":a", "a :b c :a", "a c :a :b"},
		row{":a", "a", "", ""},
		row{"b", ":b", "", ""},
		row{":b", "b", ":b c :a b", "b c :a :b"},
		row{"c :c", ":c c", "c", "a c :b :c"},
		row{":a a", "a :a", "a", "a c :a :b"},
		row{":f :d b", "d b", "b", "b"},
	)
	wantWays(t, text, ways{":e", "b", []string{":e e :c a :b c :a b"}}, ways{"a", ":a", []string{"a :b c :a"}}, ways{":a", "a", nil}, ways{"b", ":b", nil})
	g := graphOf(t, rulesOf(t, text))
	wantIs(t, g, labelsOf("a :b c :a b"), true)
	wantIs(t, g, labelsOf("a :a b"), false)
	wantIs(t, g, labelsOf(":b :c a"), false)
}

// What steps do is no matter of needs: an In that none reads is needed, and a file of a step alone is not there.
func TestSteps(t *testing.T) {
	wantRows(t, `rule a { in s; out x; t = copy s; x = copy t; dead = sort t; }
rule b { in x, s, r; out y; y = copy s; }
rule c { in dead; out z; z = copy dead; }`,
		row{"y", "r", "y :b r", "r y :b"},
		row{"y", "x", "y :b x", "x y :b"},
		row{"y", "t", "", ""},
		row{"z", "s :a", "", ""},
		row{"z", "dead", "z :c dead", "dead z :c"},
	)
}

// made returns a rule that makes outs of ins.
func made(name string, outs, ins []string) api.Rule {
	r := api.Rule{Name: name, Ins: ins, Outs: outs}
	for _, out := range outs {
		r.Steps = append(r.Steps, api.Step{Out: out, Op: api.CConcat, Args: ins[:min(len(ins), api.MaxArgs)]})
	}
	return r
}

// mixed returns a copy of l in any order.
func mixed[E any](rnd *rand.Rand, l []E) []E {
	l = slices.Clone(l)
	rnd.Shuffle(len(l), func(i, j int) { l[i], l[j] = l[j], l[i] })
	return l
}

// The longest paths that there may be.
func TestLongestPaths(t *testing.T) {
	var rs []api.Rule
	var p []api.Label
	for i := range api.MaxRules {
		in, out, name := fmt.Sprintf("f%02d", i), fmt.Sprintf("f%02d", i+1), fmt.Sprintf("r%02d", (i*7)%api.MaxRules)
		rs = append(rs, made(name, []string{out}, []string{in}))
		p = append(p, file(in), rule(name))
	}
	p = append(p, file("f40"))
	slices.Reverse(p)
	first, last := p[:1], p[len(p)-1:]
	for seed := range uint64(3) {
		rnd := rand.New(rand.NewPCG(seed, 1))
		g := graphOf(t, mixed(rnd, rs))
		wantSome(t, g, first, last, p)
		wantSome(t, g, last, first, nil)
		wantSome(t, g, p, p, labelsOf("f00"))
		wantAll(t, g, first, last, ascending(p))
		wantAll(t, g, last, first, nil)
		wantAll(t, g, mixed(rnd, p), mixed(rnd, p), ascending(p))
		wantPaths(t, g, first[0], last[0], [][]api.Label{p})
		wantPaths(t, g, last[0], first[0], nil)
		for i := range p {
			wantIs(t, g, p[i:], true)
			wantIs(t, g, p[:i+1], true)
			wantSome(t, g, p[:i+1], p[i:], p[i:i+1])
			wantSome(t, g, p[:i+1], last, p[i:])
			wantSome(t, g, first, p[i:], p[:i+1])
			wantAll(t, g, p[i:i+1], last, ascending(p[i:]))
			wantAll(t, g, first, p[i:i+1], ascending(p[:i+1]))
			wantIs(t, g, slices.Insert(slices.Clone(p), i, p[i]), false)
			if i > 0 && i < len(p)-1 {
				wantIs(t, g, slices.Delete(slices.Clone(p), i, i+1), false)
			}
		}
	}
}

// ascending returns a copy of ls in ascending order, each label once.
func ascending(ls []api.Label) []api.Label {
	return slices.Compact(slices.SortedFunc(slices.Values(ls), compareLabels))
}

// compareLabels compares labels as the chapter says: files precede rules, and names are in the order of their bytes.
func compareLabels(a, b api.Label) int {
	kinds := map[bool]int{false: 1, true: 2}
	return cmp.Or(cmp.Compare(kinds[a.Rule], kinds[b.Rule]), cmp.Compare(a.Name, b.Name))
}

// broad returns rules of which each makes four files of all four that the one before makes, and the first of s; so
// that there are 4^39 paths from a file of the last to the rule of the first. The last one reads "z" too, and no other.
func broad() []api.Rule {
	ins := []string{"s"}
	var rs []api.Rule
	for i := range api.MaxRules {
		var outs []string
		for _, c := range "abcd" {
			outs = append(outs, fmt.Sprintf("%02d%c", i, c))
		}
		rs = append(rs, made(fmt.Sprintf("r%02d", i), outs, ins))
		ins = outs
	}
	rs[39].Ins = append(slices.Clone(rs[39].Ins), "z")
	return rs
}

// through returns the path from the file of the last of broad rules to s that counting in fours tells, the last place for the last choice.
func through(top api.Label, n int) []api.Label {
	p := []api.Label{file("s")}
	for i := range api.MaxRules - 1 {
		p = append(p, rule(fmt.Sprintf("r%02d", i)), file(fmt.Sprintf("%02d%c", i, "abcd"[n%4])))
		n /= 4
	}
	p = append(p, rule("r39"), top)
	slices.Reverse(p)
	return p
}

// Paths are far too many to go through them, and so are those that lead elsewhere.
func TestVeryManyPaths(t *testing.T) {
	rs := broad()
	for range 2 {
		g := graphOf(t, rs)
		for _, top := range labelsOf("39a 39d") {
			from := []api.Label{top}
			var first [][]api.Label
			for n := range 1000 {
				first = append(first, through(top, n))
			}
			wantPaths(t, g, top, file("s"), first)
			wantSome(t, g, from, labelsOf("s"), first[0])
			// No file is on a way from this one but those of other rules, and s.
			all := []api.Label{top, file("s")}
			for i, r := range graphRules(rs) {
				all = append(all, rule(r.Name))
				if i < 39 {
					all = append(all, labelsOf(strings.Join(r.Outs, " "))...)
				}
			}
			wantAll(t, g, from, labelsOf("s"), ascending(all))
			// Only one way leads there; or none, for z and the other files of the last rule.
			wantPaths(t, g, top, file("z"), [][]api.Label{{top, rule("r39"), file("z")}})
			wantSome(t, g, from, labelsOf("z"), []api.Label{top, rule("r39"), file("z")})
			wantAll(t, g, from, labelsOf("z"), []api.Label{top, file("z"), rule("r39")})
			wantPaths(t, g, top, file("38d"), [][]api.Label{{top, rule("r39"), file("38d")}})
			for _, none := range labelsOf("39b none :none") {
				wantPaths(t, g, top, none, nil)
				wantSome(t, g, from, []api.Label{none}, nil)
				wantAll(t, g, from, []api.Label{none}, nil)
			}
			wantSome(t, g, labelsOf("38a 38b 38c 38d :r38"), []api.Label{top, file("z")}, nil)
			wantAll(t, g, labelsOf("38a 38b 38c 38d :r38"), []api.Label{top, file("z")}, nil)
			wantPaths(t, g, file("38a"), file("z"), nil)
		}
		slices.Reverse(rs)
	}
}

// graphRules returns the rules in the order of their names.
func graphRules(rs []api.Rule) []api.Rule {
	return slices.SortedFunc(slices.Values(rs), func(a, b api.Rule) int { return cmp.Compare(a.Name, b.Name) })
}

// ofNumber returns rules by which there are n paths from the label that it returns to s: as many as there are, doubled
// again and again, and one more by which a rule reads s itself.
func ofNumber(n int) (api.Label, []api.Rule) {
	if n == 1 {
		return file("s"), nil
	}
	below, rs := ofNumber(n / 2)
	level := fmt.Sprintf("%d", n)
	two := []string{"b" + level, "y" + level}
	ins := two
	if n%2 == 1 {
		ins = append(slices.Clone(two), "s")
	}
	return file("f" + level), append(rs, made("m"+level, []string{"f" + level}, ins), made("k"+level, two, []string{below.Name}))
}

// There may be less than 200 paths, 200, and more.
func TestNumberOfPaths(t *testing.T) {
	numbers := []int{100, 198, 199, 200, 201, 202, 255, 256, 257, 399, 400, 401, 1000, 1001, 4095, 65535, 1 << 16, 1<<20 - 1}
	for n := range 40 {
		numbers = append(numbers, n+2)
	}
	rnd := rand.New(rand.NewPCG(16, 2))
	for _, n := range numbers {
		top, rs := ofNumber(n)
		g := graphOf(t, mixed(rnd, rs))
		if got := len(trail.Paths(g, top, file("s"), math.MaxInt)); got != min(n, 200) {
			t.Errorf("P16.1: of %d paths, Paths are %d", n, got)
		}
		want := naiveOf(rs).memo(file("s"), 1001)(top)
		if len(want) != min(n, 1001) {
			t.Fatalf("the test itself is wrong: of %d paths, it has %d", n, len(want))
		}
		wantPaths(t, g, top, file("s"), want)
	}
}

// Names, numbers and lists beyond all that is sound are no reason to panic or to go on for ever.
func TestBeyondAll(t *testing.T) {
	g := graphOf(t, broad())
	top, s := file("39a"), file("s")
	many := slices.Repeat([]api.Label{top, file("none"), rule("r39"), {}, file("z")}, 1<<16)
	wantSome(t, g, many, []api.Label{s}, through(top, 0)[1:])
	wantSome(t, g, []api.Label{top}, many, []api.Label{top})
	wantAll(t, g, many, many, []api.Label{top, file("z"), rule("r39")})
	wantIs(t, g, many, false)
	wantIs(t, g, slices.Repeat([]api.Label{top, rule("r39")}, 1<<16), false)
	wantIs(t, g, make([]api.Label, 1<<20), false)
	long := strings.Repeat("a/", 1<<20)
	wantSome(t, g, []api.Label{file(long), rule(long)}, []api.Label{rule(long), file(long)}, nil)
	wantAll(t, g, []api.Label{file(long), rule(long)}, []api.Label{rule(long), file(long)}, nil)
	wantPaths(t, g, file(long), file(long), nil)
	wantIs(t, g, []api.Label{rule(long)}, false)
}

// room returns a copy of l with spare room, in which more stands.
func room[E any](l []E, more E) []E {
	all := append(make([]E, 0, len(l)+3), l...)
	return append(all, more, more, more)[:len(l)]
}

// spoil writes into all of l, its spare room among that.
func spoil[E any](l []E, with E) {
	l = l[:cap(l)]
	for i := range l {
		l[i] = with
	}
}

// spoilPaths writes into all of the paths, and over them.
func spoilPaths(paths [][]api.Label) {
	for _, p := range paths {
		spoil(p, file("changed"))
	}
	spoil(paths, []api.Label{file("changed")})
}

// Neither the labels that are passed in, nor their spare room, change: not by the call, nor when its answer is changed.
func TestWhatIsPassedInStays(t *testing.T) {
	g := graphOf(t, rulesOf(t, example))
	for _, spare := range labelsOf("spare w s :b none") {
		for _, x := range []struct{ from, to string }{{"w", "s"}, {"y", "y"}, {"w y :b", "s x :a"}, {"none z", "s none"}, {"w :c y :b s", ""}, {"", "s"}, {"s", "w"}} {
			from, to := room(labelsOf(x.from), spare), room(labelsOf(x.to), spare)
			wereFrom, wereTo := slices.Clone(from[:cap(from)]), slices.Clone(to[:cap(to)])
			spoil(trail.Some(g, from, to), file("changed"))
			spoil(trail.All(g, from, to), file("changed"))
			trail.Is(g, from)
			trail.Is(g, to)
			if !slices.Equal(from[:cap(from)], wereFrom) || !slices.Equal(to[:cap(to)], wereTo) {
				t.Errorf("P16.1: a call changed %q and %q to %q and %q", told(wereFrom), told(wereTo), told(from[:cap(from)]), told(to[:cap(to)]))
			}
		}
	}
}

// What stands in the spare room of a list is not read.
func TestSpareRoomIsNotRead(t *testing.T) {
	g := graphOf(t, rulesOf(t, example))
	for _, spare := range labelsOf("w s x y :a :b :c none") {
		none := room([]api.Label(nil), spare)
		wantSome(t, g, room(labelsOf("w"), spare), room(labelsOf("s"), spare), labelsOf("w :c y :b s"))
		wantAll(t, g, room(labelsOf("w"), spare), room(labelsOf("u"), spare), labelsOf("u w :c"))
		wantSome(t, g, none, room(labelsOf("s"), spare), nil)
		wantSome(t, g, room(labelsOf("w"), spare), none, nil)
		wantAll(t, g, none, room(labelsOf("s"), spare), nil)
		wantAll(t, g, room(labelsOf("w"), spare), none, nil)
		wantIs(t, g, none, false)
		wantIs(t, g, room(labelsOf("w :c y"), spare), true)
		wantIs(t, g, room(labelsOf("w y"), spare), false)
	}
}

// An answer turns neither with what was passed in nor with another answer, also where their spare room is changed.
func TestAnswersAreTheCallersOwn(t *testing.T) {
	g := graphOf(t, rulesOf(t, example))
	for _, x := range []row{{"w", "s", "w :c y :b s", "s w x y :a :b :c"}, {"y", "y", "y", "y"}, {":b x", ":a s", "x :a", "s x :a :b"}, {"z", "s", "z :b s", "s x z :a :b"}} {
		from, to := room(labelsOf(x.from), file("spare")), room(labelsOf(x.to), file("spare"))
		for _, call := range []struct {
			what, want string
			of         func() []api.Label
		}{
			{"Some", x.some, func() []api.Label { return trail.Some(g, from, to) }},
			{"All", x.all, func() []api.Label { return trail.All(g, from, to) }},
		} {
			earlier, changed, later := call.of(), call.of(), call.of()
			spoil(changed, file("changed"))
			fresh := call.of()
			spoil(from, file("changed"))
			spoil(to, file("changed"))
			for _, got := range [][]api.Label{earlier, later, fresh} {
				if told(got) != call.want {
					t.Errorf("P16.1: %s of %q and %q, beside one that was changed, is %q", call.what, x.from, x.to, told(got))
				}
			}
			from, to = room(labelsOf(x.from), file("spare")), room(labelsOf(x.to), file("spare"))
		}
		wantRows(t, example, x)
	}
}

// Each of the paths may be changed and grown alone, and so may their list.
func TestPathsShareNothing(t *testing.T) {
	for _, x := range []struct {
		rs   []api.Rule
		a, b string
	}{{rulesOf(t, example), "w", "s"}, {rulesOf(t, example), "y", "y"}, {broad(), "39a", "s"}, {broad(), "02b", "00c"}, {broad(), "39a", "z"}} {
		g := graphOf(t, x.rs)
		a, b := file(x.a), file(x.b)
		want := naiveOf(x.rs).memo(b, 200)(a)
		earlier := trail.Paths(g, a, b, 200)
		for i := range want {
			got := trail.Paths(g, a, b, 200)
			spoil(got[i], file("changed"))
			_ = append(got[i], file("changed"), file("changed"))
			got[i] = slices.Clone(want[i])
			_ = append(got, labelsOf("changed"))
			if !reflect.DeepEqual(got, want) {
				t.Fatalf("P16.1: when path %d of %q and %q was changed, the paths turned to %.900q", i, x.a, x.b, toldAll(got))
			}
			spoilPaths(trail.Paths(g, a, b, i+1))
			spoilPaths(got[:cap(got)])
		}
		if !reflect.DeepEqual(earlier, want) {
			t.Errorf("P16.1: Paths of %q and %q, beside some that were changed, are %.900q", x.a, x.b, toldAll(earlier))
		}
		wantMost(t, g, a, b, 200, want)
	}
}

// naive is what the chapters say of rules, taken rule by rule: the needs of each label, in any order.
type naive struct {
	needs map[api.Label][]api.Label
}

func naiveOf(rs []api.Rule) naive {
	n := naive{make(map[api.Label][]api.Label)}
	for _, r := range rs {
		n.needs[rule(r.Name)] = nil
		for _, in := range r.Ins {
			n.needs[rule(r.Name)] = append(n.needs[rule(r.Name)], file(in))
			if !n.has(file(in)) {
				n.needs[file(in)] = nil
			}
		}
		for _, out := range r.Outs {
			n.needs[file(out)] = append(n.needs[file(out)], rule(r.Name))
		}
	}
	return n
}

// has reports whether l is a label of the graph.
func (n naive) has(l api.Label) bool {
	_, has := n.needs[l]
	return has
}

// all returns the labels of the graph.
func (n naive) all() []api.Label {
	var all []api.Label
	for l := range n.needs {
		all = append(all, l)
	}
	return ascending(all)
}

// is reports whether p is a path.
func (n naive) is(p []api.Label) bool {
	for i, l := range p {
		if !n.has(l) || i > 0 && !slices.Contains(n.needs[p[i-1]], l) {
			return false
		}
	}
	return len(p) > 0
}

// from returns all paths that begin with p, those that end where it ends among them.
func (n naive) from(p []api.Label) [][]api.Label {
	all := [][]api.Label{p}
	for _, next := range n.needs[p[len(p)-1]] {
		all = append(all, n.from(append(slices.Clone(p), next))...)
	}
	return all
}

// between returns all paths from one of from to one of to, in the order of Paths.
func (n naive) between(from, to []api.Label) [][]api.Label {
	var all [][]api.Label
	for _, l := range ascending(from) {
		if !n.has(l) {
			continue
		}
		for _, p := range n.from([]api.Label{l}) {
			if slices.Contains(to, p[len(p)-1]) {
				all = append(all, p)
			}
		}
	}
	slices.SortFunc(all, comparePaths)
	return all
}

// comparePaths compares paths by the first index at which they differ; a path precedes those that begin with it.
func comparePaths(p, q []api.Label) int {
	return slices.CompareFunc(p, q, compareLabels)
}

// memo returns what tells the first most paths from a label to b, which it remembers for each.
func (n naive) memo(b api.Label, most int) func(api.Label) [][]api.Label {
	known := make(map[api.Label][][]api.Label)
	var paths func(l api.Label) [][]api.Label
	paths = func(l api.Label) [][]api.Label {
		if got, is := known[l]; is {
			return got
		}
		var all [][]api.Label
		if l == b && n.has(b) {
			all = append(all, []api.Label{b})
		}
		for _, next := range ascending(n.needs[l]) {
			for _, p := range paths(next) {
				all = append(all, slices.Concat([]api.Label{l}, p))
			}
		}
		known[l] = all[:min(len(all), most)]
		return known[l]
	}
	return paths
}

// shortest returns the shortest of the paths, and of several the first, and how many are as short.
func shortest(paths [][]api.Label) (p []api.Label, as int) {
	for _, q := range paths {
		switch {
		case p == nil || len(q) < len(p):
			p, as = q, 1
		case len(q) == len(p):
			as++
			if comparePaths(q, p) < 0 {
				p = q
			}
		}
	}
	return p, as
}

// some returns at most n elements of l, in any order.
func some[E any](rnd *rand.Rand, l []E, n int) []E {
	return mixed(rnd, l)[:min(len(l), rnd.IntN(n+1))]
}

// anyRules returns at most n rules that check.All accepts; rules and files often have one name.
func anyRules(rnd *rand.Rand, n int) []api.Rule {
	var names []string
	for _, name := range strings.Fields("a b c d e f A B 0 1 9 z _ x y") {
		names = append(names, name, name+"/b", name+".o", name+"-")
	}
	files := mixed(rnd, names)
	sources := 1 + rnd.IntN(3)
	known, files := files[:sources:sources], files[sources:]
	mostIns, mostAfter, mostOuts := 2+rnd.IntN(5), rnd.IntN(3), 1+rnd.IntN(3)
	var rs []api.Rule
	var done []string
	for _, name := range mixed(rnd, names)[:rnd.IntN(n+1)] {
		outs := 1 + rnd.IntN(mostOuts)
		// Ins and After of what is there so far, so that there is no cycle.
		r := made(name, files[:outs:outs], some(rnd, known, mostIns))
		r.After = some(rnd, done, mostAfter)
		rs, done, known, files = append(rs, r), append(done, name), append(known, r.Outs...), files[outs:]
	}
	return mixed(rnd, rs)
}

// anyLabels returns at most n labels of all and others, in any order, some of them twice.
func anyLabels(rnd *rand.Rand, all []api.Label, n int) []api.Label {
	all = append(slices.Clone(all), labelsOf("none :none ::a a :a B :B w/")...)
	var ls []api.Label
	for range rnd.IntN(n + 1) {
		ls = append(ls, all[rnd.IntN(len(all))])
	}
	return ls
}

// nearly returns p, mostly with a fault.
func nearly(rnd *rand.Rand, p, all []api.Label) []api.Label {
	p = slices.Clone(p)
	i, j, other := rnd.IntN(len(p)), rnd.IntN(len(p)), append(anyLabels(rnd, all, 1), file("none"))[0]
	switch rnd.IntN(6) {
	case 0:
		p[i] = other
	case 1:
		p[i], p[j] = p[j], p[i]
	case 2:
		p = slices.Insert(p, i, other)
	case 3:
		p = slices.Delete(p, i, i+1)
	case 4:
		p = append(p, other)
	}
	return p
}

// Made-up rules, against the chapter's words.
func TestAnyRules(t *testing.T) {
	none, one, more, several, isPath, isNone := 0, 0, 0, 0, 0, 0
	for seed := range uint64(2500) {
		rnd := rand.New(rand.NewPCG(16, seed))
		rs := anyRules(rnd, 10)
		g, n := graphOf(t, rs), naiveOf(rs)
		for range 8 {
			from := anyLabels(rnd, n.all(), 4)
			to := anyLabels(rnd, n.all(), 4)
			if rnd.IntN(2) == 0 {
				to = anyLabels(rnd, ascending(slices.Concat(n.between(from, n.all())...)), 4)
			}
			paths := n.between(from, to)
			p, as := shortest(paths)
			wantSome(t, g, room(from, file("s")), room(to, file("s")), p)
			wantAll(t, g, room(from, file("s")), room(to, file("s")), ascending(slices.Concat(paths...)))
			if as > 1 {
				several++
			}
			for _, a := range from {
				for _, b := range to {
					paths := n.between([]api.Label{a}, []api.Label{b})
					most := rnd.IntN(12) - 2
					wantMost(t, g, a, b, most, paths[:max(0, min(len(paths), most))])
					wantMost(t, g, a, b, 200+most, paths[:min(len(paths), 200, 200+most)])
					switch len(paths) {
					case 0:
						none++
					case 1:
						one++
					default:
						more++
					}
				}
			}
			for _, p := range paths[:min(len(paths), 9)] {
				wantIs(t, g, p, true)
				q := nearly(rnd, p, n.all())
				wantIs(t, g, room(q, file("s")), n.is(q))
				if n.is(q) {
					isPath++
				} else {
					isNone++
				}
			}
		}
		if t.Failed() {
			t.Fatalf("the rules: %+v", rs)
		}
	}
	if none < 20000 || one < 5000 || more < 1500 || several < 400 || isPath < 2500 || isNone < 5000 {
		t.Errorf("the made-up rules are lopsided: %d, %d, %d, %d, %d, %d", none, one, more, several, isPath, isNone)
	}
}

// As many made-up rules as may be, of which each reads what several of those before it make.
func TestAnyFortyRules(t *testing.T) {
	capped, less := 0, 0
	for seed := range uint64(14) {
		rnd := rand.New(rand.NewPCG(17, seed))
		known := []string{"s", "t", "u"}
		back := 3 + rnd.IntN(12)
		var rs []api.Rule
		for i, name := range rnd.Perm(api.MaxRules) {
			var outs []string
			for k := range 1 + rnd.IntN(3) {
				outs = append(outs, fmt.Sprintf("%d.%d.%d", rnd.IntN(40), i, k))
			}
			rs = append(rs, made(fmt.Sprintf("r%02d", name), outs, some(rnd, known[max(0, len(known)-back):], api.MaxIns)))
			known = append(known, outs...)
		}
		g, n := graphOf(t, mixed(rnd, rs)), naiveOf(rs)
		all := n.all()
		for range 12 {
			from, to := append(anyLabels(rnd, all, 3), file(known[len(known)-1])), append(anyLabels(rnd, all, 3), all[rnd.IntN(len(all))])
			for _, b := range to {
				paths := n.memo(b, 201)
				for _, a := range from {
					most := rnd.IntN(220) - 5
					wantMost(t, g, a, b, most, paths(a)[:max(0, min(len(paths(a)), 200, most))])
					wantMost(t, g, a, b, 1000, paths(a)[:min(len(paths(a)), 200)])
					if len(paths(a)) > 200 {
						capped++
					} else if len(paths(a)) > 1 {
						less++
					}
				}
			}
			best := n.best(to)
			wantSome(t, g, from, to, someOf(from, best))
			wantAll(t, g, from, to, n.allOf(from, best))
		}
		if t.Failed() {
			t.Fatalf("the rules: %.3000s", fmt.Sprintf("%+v", rs))
		}
	}
	if capped < 150 || less < 100 {
		t.Errorf("the made-up rules are lopsided: %d, %d", capped, less)
	}
}

// best returns what tells the shortest path from a label to one of to, the first of several, which it remembers for each.
func (n naive) best(to []api.Label) func(api.Label) []api.Label {
	known := make(map[api.Label][]api.Label)
	var best func(l api.Label) []api.Label
	best = func(l api.Label) []api.Label {
		if got, is := known[l]; is {
			return got
		}
		var paths [][]api.Label
		if slices.Contains(to, l) && n.has(l) {
			paths = append(paths, []api.Label{l})
		}
		for _, next := range n.needs[l] {
			if p := best(next); p != nil {
				paths = append(paths, slices.Concat([]api.Label{l}, p))
			}
		}
		known[l], _ = shortest(paths)
		return known[l]
	}
	return best
}

// someOf returns the shortest path from one of from to where best leads, the first of several.
func someOf(from []api.Label, best func(api.Label) []api.Label) []api.Label {
	var paths [][]api.Label
	for _, l := range from {
		if p := best(l); p != nil {
			paths = append(paths, p)
		}
	}
	p, _ := shortest(paths)
	return p
}

// allOf returns all labels that from needs, near and far, and that lead to where best leads.
func (n naive) allOf(from []api.Label, best func(api.Label) []api.Label) []api.Label {
	seen := make(map[api.Label]struct{})
	var all []api.Label
	var walk func(ls []api.Label)
	walk = func(ls []api.Label) {
		for _, l := range ls {
			if _, is := seen[l]; !is && best(l) != nil {
				seen[l] = struct{}{}
				all = append(all, l)
				walk(n.needs[l])
			}
		}
	}
	walk(from)
	return ascending(all)
}
