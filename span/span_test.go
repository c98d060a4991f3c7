package span_test

import (
	"fmt"
	"maps"
	"math"
	"math/rand/v2"
	"reflect"
	"slices"
	"strings"
	"testing"

	"shipwright/api"
	"shipwright/check"
	"shipwright/parse"
	"shipwright/span"
)

// toldRules tells rules in a test's complaint.
func toldRules(rs []api.Rule) string { return fmt.Sprintf("%.900s", fmt.Sprintf("%+v", rs)) }

// rulesOf returns the rules of a rule file.
func rulesOf(t *testing.T, text string) []api.Rule {
	t.Helper()
	rs, err := parse.File(text)
	if err.Code != api.OK {
		t.Fatalf("parse.File(%q) = %+v", text, err)
	}
	return rs
}

// namesOf returns the names of the rules, in their order.
func namesOf(rs []api.Rule) []string {
	var names []string
	for _, r := range rs {
		names = append(names, r.Name)
	}
	return names
}

// ordersOf calls f with l in every order.
func ordersOf[E any](l []E, f func([]E)) {
	var place func(at int)
	place = func(at int) {
		if at == len(l) {
			f(slices.Clone(l))
			return
		}
		for i := at; i < len(l); i++ {
			l[at], l[i] = l[i], l[at]
			place(at + 1)
			l[at], l[i] = l[i], l[at]
		}
	}
	l = slices.Clone(l)
	place(0)
}

// listsOf returns all lists of names and of strings in r.
func listsOf(r *api.Rule) []*[]string {
	all := []*[]string{&r.Ins, &r.Outs, &r.After}
	for i := range r.Steps {
		all = append(all, &r.Steps[i].Args, &r.Steps[i].Lits)
	}
	return all
}

// plain returns a deep copy of the rules, in which a list without elements is nil.
func plain(rs []api.Rule) []api.Rule {
	rs = append([]api.Rule(nil), rs...)
	for i := range rs {
		rs[i].Steps = append([]api.Step(nil), rs[i].Steps...)
		for _, l := range listsOf(&rs[i]) {
			*l = append([]string(nil), *l...)
		}
	}
	return rs
}

// wantClosure fails unless the Closure of the rule is want.
func wantClosure(t *testing.T, rs []api.Rule, name string, want []string) {
	t.Helper()
	if got := span.Closure(rs, name); !slices.Equal(got, want) {
		t.Errorf("P15.1: Closure of %.300q in %s = %q, not %q", name, toldRules(rs), got, want)
	}
}

// wantImplied fails unless Implied of name and after is want.
func wantImplied(t *testing.T, rs []api.Rule, name, after string, want bool) {
	t.Helper()
	if got := span.Implied(rs, name, after); got != want {
		t.Errorf("P15.1: Implied of %.300q and %.300q in %s = %v", name, after, toldRules(rs), got)
	}
}

// wantReduced fails unless Reduced of rs is want.
func wantReduced(t *testing.T, rs, want []api.Rule) {
	t.Helper()
	if got := span.Reduced(rs); !reflect.DeepEqual(plain(got), plain(want)) {
		t.Errorf("P15.1: Reduced of %s = %s, not %s", toldRules(rs), toldRules(got), toldRules(want))
	}
}

// row is a rule: its Closure, those of its After that Reduced leaves, and those that are Implied.
type row struct {
	name, closure, left, implied string
}

// strange are names that the rules of these tests have not, also those of files among them.
var strange = strings.Fields("none zzz rule in : :a .a a. aa A s/ ..")

// wantRows fails unless Closure, Implied and Reduced are what the rows say, one for each rule, whatever the rules' order.
func wantRows(t *testing.T, rs []api.Rule, rows ...row) {
	t.Helper()
	if code, name := check.All(rs); code != api.OK || len(rs) != len(rows) {
		t.Fatalf("check.All of %s = %d, %q; and there are %d rows", toldRules(rs), code, name, len(rows))
	}
	others := append(namesOf(rs), "none", "s", "x")
	byName := make(map[string]row)
	for _, r := range rows {
		byName[r.name] = r
	}
	ordersOf(rs, func(rs []api.Rule) {
		t.Helper()
		for _, r := range rows {
			wantClosure(t, rs, r.name, strings.Fields(r.closure))
			for _, other := range others {
				wantImplied(t, rs, r.name, other, slices.Contains(strings.Fields(r.implied), other))
			}
		}
		reduced := slices.Clone(rs)
		for i, r := range reduced {
			reduced[i].After = strings.Fields(byName[r.Name].left)
		}
		wantReduced(t, rs, reduced)
		wantReduced(t, reduced, reduced)
	})
}

// example is the chapter's.
const example = `rule a { out x; x = concat; }
rule b { out y; after a; y = concat; }
rule c { in y; out z; after a, b; z = copy y; }
rule d { out w; after a, c; w = concat; }`

func TestExample(t *testing.T) {
	rs := rulesOf(t, example)
	wantRows(t, rs,
		row{"a", "", "", ""},
		row{"b", "a", "a", ""},
		row{"c", "a b", "", "a b"},
		row{"d", "a b c", "c", "a"},
	)
}

func TestNeeds(t *testing.T) {
	for _, x := range []struct {
		what, text string
		rows       []row
	}{
		{"rules that need none", `rule c { out x; x = concat; } rule a { in s; out y; y = concat; } rule b { in s, t; out z; z = concat; }`,
			[]row{{"a", "", "", ""}, {"b", "", "", ""}, {"c", "", "", ""}}},
		{"one need by an In", `rule a { in x; out y; y = copy x; } rule b { in s; out x; x = copy s; }`,
			[]row{{"a", "b", "", ""}, {"b", "", "", ""}}},
		{"one need by After", `rule a { out y; after b; y = concat; } rule b { out x; x = concat; }`,
			[]row{{"a", "b", "b", ""}, {"b", "", "", ""}}},
		{"one need by both", `rule a { in x; out y; after b; y = copy x; } rule b { out x; x = concat; }`,
			[]row{{"a", "b", "", "b"}, {"b", "", "", ""}}},
		{"one need by two Ins and by After", `rule a { in x, s, y; out z; after b; z = concat x y; } rule b { out x, y; x = concat; y = concat; }`,
			[]row{{"a", "b", "", "b"}, {"b", "", "", ""}}},
		{"needs of one rule by an In, by After and by both", `rule d { in x, y; out w; after c, b; w = copy x; } rule a { out x; x = concat; } rule b { out y; y = concat; } rule c { out z; z = concat; }`,
			[]row{{"d", "a b c", "c", "b"}, {"a", "", "", ""}, {"b", "", "", ""}, {"c", "", "", ""}}},
		{"a chain by Ins", `rule a { in x; out y; y = copy x; } rule b { in w; out x; x = copy w; } rule c { in v; out w; w = copy v; } rule d { in s; out v; v = copy s; }`,
			[]row{{"a", "b c d", "", ""}, {"b", "c d", "", ""}, {"c", "d", "", ""}, {"d", "", "", ""}}},
		{"a chain by After", `rule a { out y; after b; y = concat; } rule b { out x; after c; x = concat; } rule c { out w; after d; w = concat; } rule d { out v; v = concat; }`,
			[]row{{"a", "b c d", "b", ""}, {"b", "c d", "c", ""}, {"c", "d", "d", ""}, {"d", "", "", ""}}},
		{"a chain by an In, by After and by an In", `rule a { in x; out y; y = copy x; } rule b { out x; after c; x = concat; } rule c { in v; out w; w = copy v; } rule d { out v; v = concat; }`,
			[]row{{"a", "b c d", "", ""}, {"b", "c d", "c", ""}, {"c", "d", "", ""}, {"d", "", "", ""}}},
		{"a chain by After, by an In and by After", `rule a { out y; after b; y = concat; } rule b { in w; out x; x = copy w; } rule c { out w; after d; w = concat; } rule d { out v; v = concat; }`,
			[]row{{"a", "b c d", "b", ""}, {"b", "c d", "", ""}, {"c", "d", "d", ""}, {"d", "", "", ""}}},
		{"two ways to one rule, by Ins", `rule a { in x, y; out z; z = concat x y; } rule b { in w; out x; x = copy w; } rule c { in w; out y; y = copy w; } rule d { out w; w = concat; }`,
			[]row{{"a", "b c d", "", ""}, {"b", "d", "", ""}, {"c", "d", "", ""}, {"d", "", "", ""}}},
		{"two ways to one rule, by After", `rule a { out z; after c, b; z = concat; } rule b { out x; after d; x = concat; } rule c { out y; after d; y = concat; } rule d { out w; w = concat; }`,
			[]row{{"a", "b c d", "c b", ""}, {"b", "d", "d", ""}, {"c", "d", "d", ""}, {"d", "", "", ""}}},
		{"two ways to one rule, by Ins and by After", `rule a { in x; out z; after c; z = copy x; } rule b { out x; after d; x = concat; } rule c { in w; out y; y = copy w; } rule d { out w; w = concat; }`,
			[]row{{"a", "b c d", "c", ""}, {"b", "d", "d", ""}, {"c", "d", "", ""}, {"d", "", "", ""}}},
		{"a short way and a long one to one rule", `rule a { in w, y; out z; z = copy w; } rule b { in x; out y; y = copy x; } rule c { in w; out x; x = copy w; } rule d { out w; w = concat; }`,
			[]row{{"a", "b c d", "", ""}, {"b", "c d", "", ""}, {"c", "d", "", ""}, {"d", "", "", ""}}},
		{"two groups of rules", `rule b { in x; out y; y = copy x; } rule d { out x; x = concat; } rule a { out v; after c; v = concat; } rule c { out w; w = concat; }`,
			[]row{{"a", "c", "c", ""}, {"b", "d", "", ""}, {"c", "", "", ""}, {"d", "", "", ""}}},
		{"names in the order of their bytes", `rule z { in p, q; out o; after 9, 10, B; o = concat p q; } rule a/b { out p; p = concat; } rule a.b { out q; after 9; q = concat; } rule B { out r; r = concat; } rule 9 { out u; u = concat; } rule 10 { out v; v = concat; }`,
			[]row{{"z", "10 9 B a.b a/b", "10 B", "9"}, {"a/b", "", "", ""}, {"a.b", "9", "9", ""}, {"B", "", "", ""}, {"9", "", "", ""}, {"10", "", "", ""}}},
	} {
		t.Run(x.what, func(t *testing.T) { wantRows(t, rulesOf(t, x.text), x.rows...) })
	}
}

func TestWhatIsImplied(t *testing.T) {
	for _, x := range []struct {
		what, text string
		rows       []row
	}{
		{"by another In, which needs it by an In", `rule d { in z; out w; after a; w = copy z; } rule b { in x; out z; z = copy x; } rule a { out x; x = concat; }`,
			[]row{{"d", "a b", "", "a"}, {"b", "a", "", ""}, {"a", "", "", ""}}},
		{"by another In, which needs it by After", `rule d { in z; out w; after a; w = copy z; } rule b { out z; after a; z = concat; } rule a { out x; x = concat; }`,
			[]row{{"d", "a b", "", "a"}, {"b", "a", "a", ""}, {"a", "", "", ""}}},
		{"by another After, which needs it by an In", `rule d { out w; after a, b; w = concat; } rule b { in x; out z; z = copy x; } rule a { out x; x = concat; }`,
			[]row{{"d", "a b", "b", "a"}, {"b", "a", "", ""}, {"a", "", "", ""}}},
		{"by another After, which needs it by After", `rule d { out w; after a, b; w = concat; } rule b { out z; after a; z = concat; } rule a { out x; x = concat; }`,
			[]row{{"d", "a b", "b", "a"}, {"b", "a", "a", ""}, {"a", "", "", ""}}},
		{"by another After that stands behind it or ahead of it", `rule d { out w; after b, a, c; w = concat; } rule b { out z; after a; z = concat; } rule a { out x; x = concat; } rule c { out y; after a; y = concat; }`,
			[]row{{"d", "a b c", "b c", "a"}, {"b", "a", "a", ""}, {"a", "", "", ""}, {"c", "a", "a", ""}}},
		{"from far by Ins", `rule e { in y; out z; after a, b, c; z = copy y; } rule d { in x; out y; y = copy x; } rule c { in w; out x; x = copy w; } rule b { in v; out w; w = copy v; } rule a { out v; v = concat; }`,
			[]row{{"e", "a b c d", "", "a b c"}, {"d", "a b c", "", ""}, {"c", "a b", "", ""}, {"b", "a", "", ""}, {"a", "", "", ""}}},
		{"from far by After", `rule e { out z; after a, d, c; z = concat; } rule d { out y; after c; y = concat; } rule c { out x; after b; x = concat; } rule b { out w; after a; w = concat; } rule a { out v; v = concat; }`,
			[]row{{"e", "a b c d", "d", "a c"}, {"d", "a b c", "c", ""}, {"c", "a b", "b", ""}, {"b", "a", "a", ""}, {"a", "", "", ""}}},
		{"from far by both in turn", `rule e { in y; out z; after b, a; z = copy y; } rule d { out y; after c; y = concat; } rule c { in w; out x; x = copy w; } rule b { out w; after a; w = concat; } rule a { out v; v = concat; }`,
			[]row{{"e", "a b c d", "", "a b"}, {"d", "a b c", "c", ""}, {"c", "a b", "", ""}, {"b", "a", "a", ""}, {"a", "", "", ""}}},
		{"by an In that needs nothing", `rule d { in x; out w; after a, b; w = copy x; } rule a { out x; x = concat; } rule b { out y; y = concat; }`,
			[]row{{"d", "a b", "b", "a"}, {"a", "", "", ""}, {"b", "", "", ""}}},
		{"by one's In and by another one's Closure", `rule d { in x; out w; after b, a; w = copy x; } rule a { out x; x = concat; } rule b { in x; out y; y = copy x; }`,
			[]row{{"d", "a b", "b", "a"}, {"a", "", "", ""}, {"b", "a", "", ""}}},
		{"all of three, one by an In, one by that one, one by both", `rule e { in z; out w; after c, b, a; w = copy z; } rule c { in y; out z; after a; z = copy y; } rule b { out y; after a; y = concat; } rule a { out x; x = concat; }`,
			[]row{{"e", "a b c", "", "a b c"}, {"c", "a b", "", "a"}, {"b", "a", "a", ""}, {"a", "", "", ""}}},
		{"not by the rule itself, nor by its having the same need", `rule d { out w; after a; w = concat; } rule c { in x; out z; z = copy x; } rule b { out y; after a; y = concat; } rule a { out x; x = concat; }`,
			[]row{{"d", "a", "a", ""}, {"c", "a", "", ""}, {"b", "a", "a", ""}, {"a", "", "", ""}}},
		{"not by a rule that needs it in turn", `rule d { out w; after a; w = concat; } rule c { in w; out z; after a, d; z = copy w; } rule a { out x; x = concat; }`,
			[]row{{"d", "a", "a", ""}, {"c", "a d", "", "a d"}, {"a", "", "", ""}}},
		{"not by what it needs itself", `rule d { out w; after c, a; w = concat; } rule c { in x; out z; z = copy x; } rule a { in s; out y; y = copy s; } rule b { out x; x = concat; }`,
			[]row{{"d", "a b c", "c a", ""}, {"c", "b", "", ""}, {"a", "", "", ""}, {"b", "", "", ""}}},
		{"not those that are in the Closure alone", `rule d { in z; out w; w = copy z; } rule c { in y; out z; z = copy y; } rule b { out y; after a; y = concat; } rule a { out x; x = concat; }`,
			[]row{{"d", "a b c", "", ""}, {"c", "a b", "", ""}, {"b", "a", "a", ""}, {"a", "", "", ""}}},
		{"some of several, in the order of After", `rule e { in y; out z; after d, b, c, a; z = copy y; } rule b { out y; after a; y = concat; } rule d { out w; w = concat; } rule c { out v; v = concat; } rule a { out x; x = concat; }`,
			[]row{{"e", "a b c d", "d c", "a b"}, {"b", "a", "a", ""}, {"d", "", "", ""}, {"c", "", "", ""}, {"a", "", "", ""}}},
		{"each of a chain but the last", `rule e { out z; after a, b, c, d; z = concat; } rule d { out y; after a, b, c; y = concat; } rule c { out x; after a, b; x = concat; } rule b { out w; after a; w = concat; } rule a { out v; v = concat; }`,
			[]row{{"e", "a b c d", "d", "a b c"}, {"d", "a b c", "c", "a b"}, {"c", "a b", "b", "a"}, {"b", "a", "a", ""}, {"a", "", "", ""}}},
	} {
		t.Run(x.what, func(t *testing.T) { wantRows(t, rulesOf(t, x.text), x.rows...) })
	}
}

// A rule and a file of one name are two things: an In b is no need of the rule b.
func TestRuleAndFileOfOneName(t *testing.T) {
	wantRows(t, rulesOf(t, `rule a { in b, s; out c; after b; c = copy b; }
rule b { in d; out e; e = copy d; }`),
		row{"a", "b", "b", ""}, row{"b", "", "", ""})
	wantRows(t, rulesOf(t, `rule a { in b; out c; c = copy b; }
rule b { in c, d; out a; after a; a = copy c; }
rule c { in a; out e; after b, a; e = copy a; }
rule e { in e; out f; after a; f = copy e; }`),
		row{"a", "", "", ""}, row{"b", "a", "", "a"}, row{"c", "a b", "", "a b"}, row{"e", "a b c", "", "a"})
	// Each of these would need itself or the other one if a name alone told what is meant.
	wantRows(t, rulesOf(t, `rule x { in y; out p; p = copy y; } rule y { in x; out q; after x; q = copy x; }`),
		row{"x", "", "", ""}, row{"y", "x", "x", ""})
}

// What steps do is no matter of needs: an In that none reads is needed, and a file of a step alone is not made.
func TestSteps(t *testing.T) {
	wantRows(t, rulesOf(t, `rule a { in s; out x; t = copy s; x = copy t; dead = sort t; }
rule b { in x, s; out y; after a; y = copy s; }
rule c { in t, dead; out z; after a; z = copy t; }`),
		row{"a", "", "", ""}, row{"b", "a", "", "a"}, row{"c", "a", "a", ""})
}

// The rules are of every command, and their lists are not sorted.
func TestReducedKeepsTheRest(t *testing.T) {
	const text = `rule z {
  in y, b/m, s, a/l;
  out q, p;
  after %s;
  t = copy s;
  q = replace "\n" "" t;
  u = prefix 7 y;
  p = concat u t b/m u a/l;
  l = literal "";
}
rule m {
  in s, r;
  out b/m, a/l, 0;
  after %s;
  n = need r;
  0 = count n;
  b/m = sort n;
  a/l = select "\"\\" b/m;
}
rule k { in s; out y; after %s; y = concat s s; }
rule f { out e; e = literal "e"; }
rule d { in s; out g; g = copy s; }`
	left := func(z, m, k string) []api.Rule {
		return rulesOf(t, strings.ReplaceAll(fmt.Sprintf(text, z, m, k), "  after ;\n", ""))
	}
	all, want := left("m, f, d, k", "f, k", "f"), left("d", "k", "f")
	ordersOf([]int{0, 1, 2, 3, 4}, func(places []int) {
		t.Helper()
		var rs, reduced []api.Rule
		for _, at := range places {
			rs, reduced = append(rs, all[at]), append(reduced, want[at])
		}
		wantReduced(t, rs, reduced)
		wantReduced(t, reduced, reduced)
	})
	// Where none has an After, and where each After of each rule is Implied.
	free := left("", "", "f")
	free[2].After = nil
	wantReduced(t, free, free)
	implied := left("k, m", "", "f")
	implied[2].After = nil
	wantReduced(t, implied, free)
	for _, rs := range [][]api.Rule{all, want, free, implied} {
		keptClosures(t, rs, span.Reduced(rs))
	}
}

// keptClosures fails unless the Closure of every rule is the same in the reduced rules as before, and nothing is Implied there.
func keptClosures(t *testing.T, rs, reduced []api.Rule) {
	t.Helper()
	if !slices.Equal(namesOf(rs), namesOf(reduced)) {
		t.Errorf("P15.1: Reduced of rules %q = rules %q", namesOf(rs), namesOf(reduced))
	}
	for _, r := range reduced {
		if was, is := span.Closure(rs, r.Name), span.Closure(reduced, r.Name); !slices.Equal(was, is) {
			t.Errorf("P15.1: the Closure of %q in %s is %q, and %q where they are Reduced", r.Name, toldRules(rs), was, is)
		}
		for _, after := range r.After {
			wantImplied(t, reduced, r.Name, after, false)
		}
	}
}

func TestNamesThatNoRuleHas(t *testing.T) {
	rs := rulesOf(t, example)
	for _, none := range append(slices.Clone(strange), "x", "y", "z", "w", "", " ", "a ", "a b", "ab", "B", "\x00", "\xff", "ö", strings.Repeat("a/", 1<<20)) {
		if got := span.Closure(rs, none); got != nil {
			t.Errorf("P15.1: Closure of %.50q = %q, not nil", none, got)
		}
		wantImplied(t, rs, none, none, false)
		for _, r := range rs {
			wantImplied(t, rs, none, r.Name, false)
			wantImplied(t, rs, r.Name, none, false)
		}
	}
	for _, r := range rs {
		wantImplied(t, rs, r.Name, r.Name, false)
	}
}

// wantNothing fails unless Closure and Reduced of rs are nil, and Implied is false, whatever it is asked.
func wantNothing(t *testing.T, why string, rs []api.Rule) {
	t.Helper()
	names := append(slices.Clone(strange), "")
	for _, r := range rs[:min(len(rs), api.MaxRules+1)] {
		names = append(names, r.Name)
		for _, after := range r.After[:min(len(r.After), 9)] {
			wantImplied(t, rs, r.Name, after, false)
		}
	}
	for _, name := range names {
		if got := span.Closure(rs, name); got != nil {
			t.Errorf("P15.1: Closure of %.50q in rules with %s = %q, not nil", name, why, got)
		}
		wantImplied(t, rs, name, "good", false)
	}
	if got := span.Reduced(rs); got != nil {
		t.Errorf("P15.1: Reduced of rules with %s = %s, not nil", why, toldRules(got))
	}
}

func TestNoRules(t *testing.T) {
	for _, rs := range [][]api.Rule{nil, {}, make([]api.Rule, 0, 3), rulesOf(t, example)[:0]} {
		for _, name := range []string{"", "a", "none"} {
			wantClosure(t, rs, name, nil)
			wantImplied(t, rs, name, "a", false)
			wantImplied(t, rs, name, name, false)
		}
		wantReduced(t, rs, nil)
	}
}

// manyRules returns n rules r00, r01 and so on, each of which makes a file o00, o01 and so on, of nothing.
func manyRules(n int) []api.Rule {
	var rs []api.Rule
	for i := range n {
		out := fmt.Sprintf("o%02d", i)
		rs = append(rs, api.Rule{Name: fmt.Sprintf("r%02d", i), Outs: []string{out}, Steps: []api.Step{{Out: out, Op: api.CConcat}}})
	}
	return rs
}

// refused returns lists of rules that check.All does not accept, and why; most of them with rules that alone are good.
func refused(t *testing.T) map[string][]api.Rule {
	t.Helper()
	good := func(text string) []api.Rule {
		return rulesOf(t, `rule good { in s; out x; x = copy s; } rule good2 { in x; out y; after good; y = copy x; } rule good3 { out z; after good2, good; z = concat; } `+text)
	}
	// The needs of these are sound.
	wantRows(t, good(""), row{"good", "", "", ""}, row{"good2", "good", "", "good"}, row{"good3", "good good2", "good2", "good"})
	faulty := func(fault func(*api.Rule)) []api.Rule {
		rs := good(`rule r { out a; a = concat; }`)
		fault(&rs[3])
		return rs
	}
	return map[string][]api.Rule{
		"ErrForm, one empty rule":    {{}},
		"ErrForm, no Outs":           faulty(func(r *api.Rule) { r.Outs = nil }),
		"ErrForm, a name":            faulty(func(r *api.Rule) { r.Name = "in" }),
		"ErrForm, an After":          faulty(func(r *api.Rule) { r.After = []string{""} }),
		"ErrForm, a step":            faulty(func(r *api.Rule) { r.Steps[0].N = 1 }),
		"ErrMost, nine Ins":          good(`rule r { in a, b, c, d, e, f, g, h, i; out o; o = concat; }`),
		"ErrMost, 41 rules":          append(good(""), manyRules(api.MaxRules-2)...),
		"ErrName, an In twice":       good(`rule r { in a, a; out o; o = concat; }`),
		"ErrName, an After twice":    good(`rule r { out o; after good, good; o = concat; }`),
		"ErrName, After itself":      good(`rule r { out o; after r; o = concat; }`),
		"ErrName, Out of no step":    good(`rule r { out a; }`),
		"ErrName, a name twice":      good(`rule good { out a; a = concat; }`),
		"ErrName, a rule twice":      good(`rule good { in s; out x; x = copy s; }`),
		"ErrName, a file twice":      good(`rule r { in s; out x; x = copy s; }`),
		"ErrName, After of none":     good(`rule r { out a; after none; a = concat; }`),
		"ErrName, After of a file":   good(`rule r { out a; after good, x; a = concat; }`),
		"ErrCycle, by Ins":           good(`rule r { in a; out b; b = concat; } rule u { in b; out a; a = concat; }`),
		"ErrCycle, by After":         good(`rule r { out a; after u; a = concat; } rule u { out b; after r; b = concat; }`),
		"ErrCycle, by both":          good(`rule r { in b; out a; a = concat; } rule u { out b; after r; b = concat; }`),
		"ErrCycle, of all the rules": rulesOf(t, `rule r { in a; out b; after v; b = concat; } rule u { in b; out c; c = concat; } rule v { in c; out a; after u; a = concat; }`),
	}
}

func TestRulesThatAreRefused(t *testing.T) {
	codes := map[string]api.Errno{"ErrForm": api.ErrForm, "ErrMost": api.ErrMost, "ErrName": api.ErrName, "ErrCycle": api.ErrCycle}
	for why, rs := range refused(t) {
		wanted, _, _ := strings.Cut(why, ",")
		if code, _ := check.All(rs); code != codes[wanted] {
			t.Fatalf("%s: check.All = %d", why, code)
		}
		wantNothing(t, why, rs)
		slices.Reverse(rs)
		wantNothing(t, why, rs)
	}
}

// mixed returns a copy of l in any order.
func mixed[E any](rnd *rand.Rand, l []E) []E {
	l = slices.Clone(l)
	rnd.Shuffle(len(l), func(i, j int) { l[i], l[j] = l[j], l[i] })
	return l
}

// As many rules as may be: none needs another; each needs the next one by an In, by After, or by both; and each needs the last.
func TestFortyRules(t *testing.T) {
	rnd := rand.New(rand.NewPCG(15, 1))
	free := manyRules(api.MaxRules)
	ins, after, both, last := plain(free), plain(free), plain(free), plain(free)
	for i := range api.MaxRules - 1 {
		next := free[i+1]
		ins[i].Ins = []string{"s", next.Outs[0]}
		after[i].After = []string{next.Name}
		both[i].Ins, both[i].After = ins[i].Ins, after[i].After
		last[i].After = []string{"r39"}
	}
	// All names that may be in an After: the next one, and those behind it.
	long, longIns := plain(after), plain(ins)
	for i := range api.MaxRules {
		long[i].After = namesOf(free[i+1 : min(i+1+api.MaxAfter, api.MaxRules)])
		longIns[i].After = mixed(rnd, long[i].After)
	}
	names := namesOf(free)
	for range 2 {
		wantReduced(t, free, free)
		wantReduced(t, ins, ins)
		wantReduced(t, after, after)
		wantReduced(t, both, ins)
		wantReduced(t, last, last)
		wantReduced(t, long, after)
		wantReduced(t, longIns, ins)
		for i, name := range names {
			wantClosure(t, free, name, nil)
			for _, rs := range [][]api.Rule{ins, after, both, long, longIns} {
				wantClosure(t, rs, name, names[i+1:])
			}
			wantImplied(t, both, name, names[39], i == 38)
			wantImplied(t, after, name, names[39], false)
			wantImplied(t, last, name, names[39], false)
			wantImplied(t, long, name, names[39], i >= 31 && i <= 37)
			wantImplied(t, longIns, name, names[39], i >= 31 && i <= 38)
		}
		wantClosure(t, last, "r00", names[39:])
		wantClosure(t, last, "r39", nil)
		order := rnd.Perm(api.MaxRules)
		for _, rs := range [][]api.Rule{free, ins, after, both, last, long, longIns} {
			was := slices.Clone(rs)
			for i, at := range order {
				rs[i] = was[at]
			}
		}
	}
}

// Ways through many rules are far more than there are rules; each rule is looked at once all the same.
func TestVeryManyWays(t *testing.T) {
	rs := manyRules(api.MaxRules)
	want := manyRules(api.MaxRules)
	for i := range rs {
		for j := max(0, i-api.MaxIns); j < i; j++ {
			rs[i].Ins = append(rs[i].Ins, rs[j].Outs[0])
			rs[i].After = append(rs[i].After, rs[j].Name)
		}
		want[i].Ins = rs[i].Ins
	}
	names := namesOf(rs)
	wantReduced(t, rs, want)
	wantClosure(t, rs, "r39", names[:39])
	wantImplied(t, rs, "r39", "r31", true)
	wantImplied(t, rs, "r39", "r30", false)
	for i := range rs {
		rs[i].Ins = nil
		want[i].Ins, want[i].After = nil, names[max(0, i-1):i]
	}
	wantReduced(t, rs, want)
	wantClosure(t, rs, "r39", names[:39])
	wantImplied(t, rs, "r39", "r38", false)
	wantImplied(t, rs, "r39", "r37", true)
}

// Names and rules beyond all that is sound are no reason to panic or to go on for ever.
func TestBeyondAll(t *testing.T) {
	self := api.Rule{Name: "good", Ins: []string{"a"}, Outs: []string{"a"}, After: []string{"good"}, Steps: []api.Step{{Out: "a", Op: api.CCopy, Args: []string{"a"}}}}
	for why, rs := range map[string][]api.Rule{
		"a rule that needs itself":       {self},
		"very many empty rules":          make([]api.Rule, 1<<18),
		"very many rules":                slices.Repeat([]api.Rule{self}, 1<<14),
		"a very long After":              {{Name: "good", After: make([]string, 1<<18), Outs: []string{"a"}}},
		"a very long name":               {{Name: strings.Repeat("a", 1<<22), Outs: []string{"a"}, Steps: []api.Step{{Out: "a", Op: api.CConcat}}}},
		"numbers beyond all that may be": {{Name: "good", Outs: []string{"a"}, Steps: []api.Step{{Out: "a", Op: math.MinInt, N: math.MinInt}}}},
	} {
		wantNothing(t, why, rs)
	}
}

// room returns a copy of l with spare room, in which more stands.
func room[E any](l []E, more E) []E {
	all := append(make([]E, 0, len(l)+3), l...)
	return append(all, more, more, more)[:len(l)]
}

// roomy returns copies of the rules, whose lists all have spare room, in which spare stands.
func roomy(rs []api.Rule, spare string) []api.Rule {
	rs = room(rs, api.Rule{Name: spare, Outs: []string{spare}, After: []string{spare}})
	for i := range rs {
		rs[i].Steps = room(rs[i].Steps, api.Step{Out: spare, Args: []string{spare}})
		for _, l := range listsOf(&rs[i]) {
			*l = room(*l, spare)
		}
	}
	return rs
}

// spread returns a deep copy of the rules, with what stands in the spare room of their lists.
func spread(rs []api.Rule) []api.Rule {
	rs = slices.Clone(rs[:cap(rs)])
	for i := range rs {
		rs[i].Steps = slices.Clone(rs[i].Steps[:cap(rs[i].Steps)])
		for _, l := range listsOf(&rs[i]) {
			*l = slices.Clone((*l)[:cap(*l)])
		}
	}
	return rs
}

// spoil writes into all of l, its spare room among that.
func spoil[E any](l []E, with E) {
	l = l[:cap(l)]
	for i := range l {
		l[i] = with
	}
}

// spoilRule writes into all lists of r, their spare room among that.
func spoilRule(r *api.Rule) {
	for _, l := range listsOf(r) {
		spoil(*l, "changed")
	}
	spoil(r.Steps, api.Step{Out: "changed"})
}

// spoilRules writes into all lists of the rules, and over the rules themselves.
func spoilRules(rs []api.Rule) {
	for i := range rs {
		spoilRule(&rs[i])
	}
	spoil(rs, api.Rule{Name: "changed"})
}

// Neither the rules that are passed in, nor the spare room of any list of theirs, change: not by the call, nor when its answer is changed.
func TestWhatIsPassedInStays(t *testing.T) {
	all := refused(t)
	all["accepted"] = rulesOf(t, example)
	for name, rs := range all {
		for range 2 {
			slices.Reverse(rs)
			rs := roomy(rs, "spare")
			were := spread(rs)
			for _, r := range rs {
				spoil(span.Closure(rs, r.Name), "changed")
				for _, after := range r.After {
					span.Implied(rs, r.Name, after)
				}
			}
			spoilRules(span.Reduced(rs))
			if got := spread(rs); !reflect.DeepEqual(got, were) {
				t.Errorf("P15.1: with rules %s, a call changed %s to %s", name, toldRules(were), toldRules(got))
			}
		}
	}
}

// What stands in the spare room of a list is not read.
func TestSpareRoomIsNotRead(t *testing.T) {
	rs := rulesOf(t, example)
	for _, spare := range []string{"a", "b", "c", "d", "x", "y", "w", "none", ""} {
		ordersOf(rs, func(rs []api.Rule) {
			t.Helper()
			rs = roomy(rs, spare)
			want := plain(rs)
			for i, r := range want {
				want[i].After = strings.Fields(map[string]string{"b": "a", "d": "c"}[r.Name])
			}
			wantReduced(t, rs, want)
			wantClosure(t, rs, "d", strings.Fields("a b c"))
			wantClosure(t, rs, "a", nil)
			wantImplied(t, rs, "d", "a", true)
			wantImplied(t, rs, "d", "b", false)
			wantImplied(t, rs, "c", "b", true)
			wantImplied(t, rs, "b", spare, false)
		})
	}
}

// An answer turns neither with what was passed in nor with another answer, also where their spare room is changed.
func TestAnswersAreTheCallersOwn(t *testing.T) {
	rs := roomy(rulesOf(t, example), "spare")
	fresh := func() []api.Rule { return rulesOf(t, example) }
	for _, r := range fresh() {
		want := span.Closure(fresh(), r.Name)
		earlier, changed, later := span.Closure(rs, r.Name), span.Closure(rs, r.Name), span.Closure(rs, r.Name)
		spoil(changed, "changed")
		for _, got := range [][]string{earlier, later, span.Closure(rs, r.Name)} {
			if !slices.Equal(got, want) {
				t.Errorf("P15.1: Closure of %q beside one that was changed is %q", r.Name, got)
			}
		}
		wantClosure(t, rs, r.Name, want)
	}
	want := plain(span.Reduced(fresh()))
	earlier, changed, later := span.Reduced(rs), span.Reduced(rs), span.Reduced(rs)
	far := span.Closure(rs, "d")
	spoilRules(changed)
	wantReduced(t, rs, want)
	spoilRules(rs)
	for _, got := range [][]api.Rule{earlier, later} {
		if !reflect.DeepEqual(plain(got), want) {
			t.Errorf("P15.1: Reduced beside one that was changed is %s", toldRules(got))
		}
	}
	if !slices.Equal(far, strings.Fields("a b c")) {
		t.Errorf("P15.1: a Closure turned to %q with the rules", far)
	}
}

// Each list of each rule that is returned may be changed and grown alone.
func TestListsOfReducedShareNothing(t *testing.T) {
	rs := rulesOf(t, example+` rule e { in s, x; out q, p; after d, b, c; q = replace "\n" "" s; p = concat q x q; }`)
	want := plain(span.Reduced(rs))
	for i := range want {
		for k, list := range listsOf(&want[i]) {
			reduced := span.Reduced(rs)
			spoil(*listsOf(&reduced[i])[k], "changed")
			_ = append(*listsOf(&reduced[i])[k], "changed", "changed")
			*listsOf(&reduced[i])[k] = *list
			if !reflect.DeepEqual(plain(reduced), want) {
				t.Errorf("P15.1: when list %d of rule %d was changed, the rules turned to %s", k, i, toldRules(reduced))
			}
		}
		reduced := span.Reduced(rs)
		spoilRule(&reduced[i])
		reduced[i] = want[i]
		if !reflect.DeepEqual(plain(reduced), want) {
			t.Errorf("P15.1: when rule %d was changed, the rules turned to %s", i, toldRules(reduced))
		}
	}
}

// naive is what the chapter says of rules, taken rule by rule: the rules, and for each one those that it needs, and its Closure.
type naive struct {
	byName        map[string]api.Rule
	needs, closed map[string][]string
}

func naiveOf(rs []api.Rule) naive {
	n := naive{make(map[string]api.Rule), make(map[string][]string), make(map[string][]string)}
	for _, r := range rs {
		n.byName[r.Name] = r
		for _, other := range rs {
			if slices.Contains(r.After, other.Name) || n.reads(r, other) {
				n.needs[r.Name] = append(n.needs[r.Name], other.Name)
			}
		}
	}
	for _, r := range rs {
		reached := make(map[string]struct{})
		n.walk(r.Name, reached)
		n.closed[r.Name] = slices.Sorted(maps.Keys(reached))
	}
	return n
}

// walk puts all that the rule needs, near and far, into reached.
func (n naive) walk(name string, reached map[string]struct{}) {
	for _, next := range n.needs[name] {
		if _, is := reached[next]; !is {
			reached[next] = struct{}{}
			n.walk(next, reached)
		}
	}
}

// reads reports whether other makes an In of r.
func (n naive) reads(r, other api.Rule) bool {
	return slices.ContainsFunc(r.Ins, func(in string) bool { return slices.Contains(other.Outs, in) })
}

func (n naive) implied(name, after string) bool {
	r := n.byName[name]
	return slices.Contains(r.After, after) && (n.reads(r, n.byName[after]) ||
		slices.ContainsFunc(n.needs[name], func(other string) bool {
			return other != after && slices.Contains(n.closed[other], after)
		}))
}

// without returns the rules, in which after is not in the After of the rule at that place.
func without(rs []api.Rule, at int, after string) []api.Rule {
	rs = plain(rs)
	rs[at].After = slices.DeleteFunc(rs[at].After, func(name string) bool { return name == after })
	return rs
}

// wantFit fails unless Closure, Implied and Reduced of rs are what the chapter says of them, where Implied is asked for
// all that is in an After, and for pairs of any names; it tells how many After there are, and how many are Implied.
func wantFit(t *testing.T, rs []api.Rule, pairs [][2]string) (afters, implied int) {
	t.Helper()
	if code, name := check.All(rs); code != api.OK {
		t.Fatalf("check.All of %s = %d, %q", toldRules(rs), code, name)
	}
	n := naiveOf(rs)
	want := plain(rs)
	given := roomy(rs, "spare")
	for i, r := range rs {
		wantClosure(t, given, r.Name, n.closed[r.Name])
		want[i].After = nil
		for _, other := range r.After {
			afters++
			if n.implied(r.Name, other) {
				implied++
			} else {
				want[i].After = append(want[i].After, other)
			}
			// What is Implied can be left out without a change of the Closure, and nothing else can.
			if same := slices.Contains(naiveOf(without(rs, i, other)).closed[r.Name], other); same != n.implied(r.Name, other) {
				t.Errorf("the test itself is wrong: %q, %q in %s", r.Name, other, toldRules(rs))
			}
			wantImplied(t, given, r.Name, other, n.implied(r.Name, other))
		}
	}
	for _, pair := range pairs {
		wantImplied(t, given, pair[0], pair[1], n.implied(pair[0], pair[1]))
	}
	wantReduced(t, given, want)
	wantReduced(t, want, want)
	keptClosures(t, rs, span.Reduced(given))
	return afters, implied
}

// some returns at most n elements of l, in any order.
func some[E any](rnd *rand.Rand, l []E, n int) []E {
	return mixed(rnd, l)[:min(len(l), rnd.IntN(n+1))]
}

// anyPairs returns pairs of the names of the rules, and of other ones.
func anyPairs(rnd *rand.Rand, rs []api.Rule) [][2]string {
	names := append(namesOf(rs), "none", "o00", "x", "")
	pairs := make([][2]string, 20)
	for i := range pairs {
		pairs[i] = [2]string{names[rnd.IntN(len(names))], names[rnd.IntN(len(names))]}
	}
	return pairs
}

// anyRules returns at most n rules that check.All accepts; rules, files, and files of steps alone often have one name.
func anyRules(rnd *rand.Rand, n int) []api.Rule {
	var names []string
	for _, name := range strings.Fields("a b c d e f A B 0 1 9 z _ x y") {
		names = append(names, name, name+"/b", name+".o", name+"-")
	}
	files := mixed(rnd, names)
	sources := 1 + rnd.IntN(6)
	known, files := files[:sources:sources], files[sources:]
	mostIns, mostAfter := rnd.IntN(4), rnd.IntN(6)
	var rs []api.Rule
	for _, name := range some(rnd, names, n) {
		outs := 1 + rnd.IntN(min(2, len(files)))
		// Ins and After of what is there so far, so that there is no cycle.
		r := api.Rule{Name: name, Ins: some(rnd, known, mostIns), Outs: files[:outs:outs], After: some(rnd, namesOf(rs), mostAfter)}
		made := r.Outs
		if alone := names[rnd.IntN(len(names))]; !slices.Contains(r.Ins, alone) && !slices.Contains(r.Outs, alone) {
			made = append([]string{alone}, made...)
		}
		for _, out := range made {
			r.Steps = append(r.Steps, api.Step{Out: out, Op: api.CConcat, Args: some(rnd, r.Ins, 4)})
		}
		rs, known, files = append(rs, r), append(known, r.Outs...), files[outs:]
	}
	return mixed(rnd, rs)
}

// Made-up rules, against the chapter's words.
func TestAnyRules(t *testing.T) {
	rules, afters, implied := 0, 0, 0
	for seed := range uint64(1000) {
		rnd := rand.New(rand.NewPCG(15, seed))
		rs := anyRules(rnd, 11)
		a, i := wantFit(t, rs, anyPairs(rnd, rs))
		rules, afters, implied = rules+len(rs), afters+a, implied+i
		if t.Failed() {
			t.Fatalf("the rules: %+v", rs)
		}
	}
	if rules < 4000 || afters-implied < 2500 || implied < 2000 {
		t.Errorf("the made-up rules are lopsided: %d rules, %d After, of which %d are Implied", rules, afters, implied)
	}
}

// As many made-up rules as may be.
func TestAnyFortyRules(t *testing.T) {
	afters, implied := 0, 0
	for seed := range uint64(12) {
		rnd := rand.New(rand.NewPCG(16, seed))
		rs := mixed(rnd, manyRules(api.MaxRules))
		back := 2 + rnd.IntN(15)
		for i := range rs {
			before := rs[max(0, i-back):i]
			rs[i].After = some(rnd, namesOf(before), rnd.IntN(api.MaxAfter+1))
			for _, other := range some(rnd, before, 2) {
				rs[i].Ins = append(rs[i].Ins, other.Outs[0])
			}
		}
		a, i := wantFit(t, mixed(rnd, rs), anyPairs(rnd, rs))
		afters, implied = afters+a, implied+i
	}
	if afters-implied < 300 || implied < 300 {
		t.Errorf("the made-up rules are lopsided: %d After, of which %d are Implied", afters, implied)
	}
}
