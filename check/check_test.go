package check_test

import (
	"cmp"
	"fmt"
	"math"
	"math/rand/v2"
	"reflect"
	"slices"
	"strings"
	"testing"

	"shipwright/api"
	"shipwright/check"
	"shipwright/parse"
	"shipwright/path"
	"shipwright/print"
	"shipwright/step"
)

// list returns the words of s.
func list(s string) []string { return strings.Fields(s) }

// rulesOf returns the rules of a rule file.
func rulesOf(t *testing.T, text string) []api.Rule {
	t.Helper()
	rs, err := parse.File(text)
	if err.Code != api.OK {
		t.Fatalf("parse.File(%q) = %+v", text, err)
	}
	return rs
}

// wantRule fails unless Rule(r) is want.
func wantRule(t *testing.T, r api.Rule, want api.Errno) {
	t.Helper()
	if got := check.Rule(r); got != want {
		t.Errorf("P10.1: Rule of %.900s = %d, not %d", fmt.Sprintf("%+v", r), got, want)
	}
}

// wantAll fails unless All(rs) is code and name.
func wantAll(t *testing.T, rs []api.Rule, code api.Errno, name string) {
	t.Helper()
	if gotCode, gotName := check.All(rs); gotCode != code || gotName != name {
		t.Errorf("P10.1: All of %.900s = %d, %.50q, not %d, %.50q", fmt.Sprintf("%+v", rs), gotCode, gotName, code, name)
	}
}

// wantCycle fails unless Cycle(rs) is want.
func wantCycle(t *testing.T, rs []api.Rule, want ...string) {
	t.Helper()
	if got := check.Cycle(rs); !slices.Equal(got, want) {
		t.Errorf("P10.2: Cycle of %.900s = %q, not %q", fmt.Sprintf("%+v", rs), got, want)
	}
}

// ordersOf calls f with l in every order.
func ordersOf[E any](l []E, f func([]E)) {
	var place func(at int)
	place = func(at int) {
		if at == len(l) {
			f(slices.Clone(l))
			return
		}
		for i := at; i < len(l); i++ {
			l[at], l[i] = l[i], l[at]
			place(at + 1)
			l[at], l[i] = l[i], l[at]
		}
	}
	l = slices.Clone(l)
	place(0)
}

// numbered returns n names that begin with s.
func numbered(s string, n int) []string {
	var all []string
	for i := range n {
		all = append(all, fmt.Sprint(s, i))
	}
	return all
}

// empties returns steps that make these files, of nothing.
func empties(outs ...string) []api.Step {
	var steps []api.Step
	for _, out := range outs {
		steps = append(steps, api.Step{Out: out, Op: api.CConcat})
	}
	return steps
}

// example is the rule of the chapter's example.
func example(t *testing.T) api.Rule {
	t.Helper()
	return rulesOf(t, `rule r { in p, q; out a, b; after s; x = concat p q; a = copy x; b = sort a; }`)[0]
}

func TestExampleOfRule(t *testing.T) {
	wantRule(t, example(t), api.OK)
	r := example(t)
	r.Name = "in"
	wantRule(t, r, api.ErrForm)
	r = example(t)
	r.Ins = append(r.Ins, numbered("n", 7)...)
	wantRule(t, r, api.ErrMost)
	r = example(t)
	r.After = append(r.After, "r")
	wantRule(t, r, api.ErrName)
	r = example(t)
	r.Steps = append(r.Steps, empties("p")...)
	wantRule(t, r, api.ErrName)
	r = example(t)
	r.Steps = append(r.Steps, api.Step{Out: "y", Op: api.CCopy, Args: list("y")})
	wantRule(t, r, api.ErrName)
}

func TestExamplesOfAll(t *testing.T) {
	wantAll(t, rulesOf(t, `rule a { out x; x = concat; } rule b { out x; x = concat; }`), api.ErrName, "b")
	rs := rulesOf(t, `rule a { in y; out x; x = copy y; } rule b { in x; out y; y = copy x; }`)
	ordersOf(rs, func(rs []api.Rule) { wantAll(t, rs, api.ErrCycle, "a") })
}

func TestExamplesOfCycle(t *testing.T) {
	for _, way := range ways {
		ordersOf(needing(way, "c a", "a b", "b c"), func(rs []api.Rule) { wantCycle(t, rs, list("a b c")...) })
		ordersOf(needing(way, "a e c", "c a", "e x", "x a"), func(rs []api.Rule) { wantCycle(t, rs, list("a c")...) })
	}
}

// The least rule that there is: one Out, and the step that makes it.
func TestLeastRule(t *testing.T) {
	wantRule(t, api.Rule{Name: "r", Outs: list("a"), Steps: empties("a")}, api.OK)
	for _, none := range [][]string{nil, {}} {
		wantRule(t, api.Rule{Name: "r", Ins: none, Outs: list("a"), After: none, Steps: []api.Step{{Out: "a", Op: api.CConcat, Args: none, Lits: none}}}, api.OK)
		wantRule(t, api.Rule{Name: "r", Ins: none, Outs: none, After: none, Steps: empties("a")}, api.ErrForm)
	}
	wantRule(t, api.Rule{Name: "r", Outs: list("a")}, api.ErrName)
	wantRule(t, api.Rule{Name: "r", Outs: list("a"), Steps: []api.Step{}}, api.ErrName)
	wantRule(t, api.Rule{Name: "r", Steps: []api.Step{}}, api.ErrForm)
	wantRule(t, api.Rule{}, api.ErrForm)
}

// The greatest that there is, with one more of each thing.
func TestLimitsOfARule(t *testing.T) {
	greatest := func() api.Rule {
		return api.Rule{Name: "r", Ins: numbered("i", 8), Outs: numbered("o", 4), After: numbered("r", 8), Steps: empties(append(numbered("o", 4), numbered("x", 8)...)...)}
	}
	wantRule(t, greatest(), api.OK)
	for _, limit := range []struct {
		most int
		put  func(r *api.Rule, n int)
	}{
		{8, func(r *api.Rule, n int) { r.Ins = numbered("i", n) }},
		{4, func(r *api.Rule, n int) { r.Outs, r.Steps = numbered("o", n), empties(numbered("o", 12)...) }},
		{8, func(r *api.Rule, n int) { r.After = numbered("r", n) }},
		{12, func(r *api.Rule, n int) { r.Steps = empties(numbered("o", n)...) }},
	} {
		for n, want := range map[int]api.Errno{limit.most - 1: api.OK, limit.most: api.OK, limit.most + 1: api.ErrMost, limit.most + 2: api.ErrMost, 1000: api.ErrMost} {
			r := greatest()
			limit.put(&r, n)
			wantRule(t, r, want)
		}
	}
}

// fault is one way to spoil the chapter's example, at the place in the rule of which its name speaks.
type fault struct {
	name string
	code api.Errno
	make func(r *api.Rule)
}

// front and back put s into the list that at finds.
func front(at func(*api.Rule) *[]string, s ...string) func(*api.Rule) {
	return func(r *api.Rule) { *at(r) = slices.Concat(s, *at(r)) }
}
func back(at func(*api.Rule) *[]string, s ...string) func(*api.Rule) {
	return func(r *api.Rule) { *at(r) = slices.Concat(*at(r), s) }
}

// stepFront and stepBack put steps into a rule.
func stepFront(s ...api.Step) func(*api.Rule) {
	return func(r *api.Rule) { r.Steps = slices.Concat(s, r.Steps) }
}
func stepBack(s ...api.Step) func(*api.Rule) {
	return func(r *api.Rule) { r.Steps = slices.Concat(r.Steps, s) }
}

func ins(r *api.Rule) *[]string   { return &r.Ins }
func outs(r *api.Rule) *[]string  { return &r.Outs }
func after(r *api.Rule) *[]string { return &r.After }

// lists finds the lists of names by their own.
var lists = map[string]func(*api.Rule) *[]string{"Ins": ins, "Outs": outs, "After": after}

// badNames are none that a file or a rule may have.
func badNames() []string {
	return append(list("in out after rule . .. / /a a/ a//b a/. ../a ö a,b a;b a=b #"), "", " ", "a b", " a", "a\n", "\x00", "\xff", strings.Repeat("a", 41), strings.Repeat("a/", 400)+"a")
}

// formFaults are those by which a name or a step is not valid, or there are no Outs.
func formFaults() []fault {
	faults := []fault{{"no Outs", api.ErrForm, func(r *api.Rule) { r.Outs = nil }}}
	add := func(name string, f func(*api.Rule)) { faults = append(faults, fault{name, api.ErrForm, f}) }
	for _, bad := range badNames() {
		add("Name", func(r *api.Rule) { r.Name = bad })
		for name, at := range lists {
			add(name, front(at, bad))
			add(name, back(at, bad))
		}
		add("Steps", stepFront(empties(bad)...))
		add("Steps", stepBack(empties(bad)...))
		add("Steps", stepBack(api.Step{Out: "y", Op: api.CCopy, Args: []string{bad}}))
		add("Steps", stepFront(api.Step{Out: "y", Op: api.CConcat, Args: []string{bad, "p"}}))
		add("Steps", stepFront(api.Step{Out: "y", Op: api.CConcat, Args: []string{"p", bad}}))
	}
	for _, s := range badSteps() {
		add("Steps", stepFront(s))
		add("Steps", stepBack(s))
	}
	return faults
}

// badSteps are none that step.May calls valid, beside their names.
func badSteps() []api.Step {
	p, long := list("p"), strings.Repeat("l", 101)
	return []api.Step{
		{Out: "y"}, {Out: "y", Op: -1, Args: p}, {Out: "y", Op: 10, Args: p}, {Out: "y", Op: math.MaxInt, Args: p}, {Out: "y", Op: math.MinInt},
		{Out: "y", Op: api.CCopy}, {Out: "y", Op: api.CCopy, Args: list("p q")}, {Out: "y", Op: api.CCopy, Args: p, N: 1}, {Out: "y", Op: api.CCopy, Args: p, Lits: p},
		{Out: "y", Op: api.CConcat, Args: list("p p p p p p p")}, {Out: "y", Op: api.CLiteral, Lits: p, Args: p}, {Out: "y", Op: api.CLiteral}, {Out: "y", Op: api.CLiteral, Lits: []string{long}},
		{Out: "y", Op: api.CSelect, Args: p}, {Out: "y", Op: api.CReplace, Args: p, Lits: p}, {Out: "y", Op: api.CReplace, Args: p, Lits: []string{"", "a"}},
		{Out: "y", Op: api.CPrefix, Args: p, N: 2001}, {Out: "y", Op: api.CPrefix, Args: p, N: -1}, {Out: "y", Op: api.CPrefix, Args: p, N: math.MaxInt},
	}
}

// mostFaults are those by which a list is too long.
func mostFaults() []fault {
	var faults []fault
	add := func(name string, f func(*api.Rule)) { faults = append(faults, fault{name, api.ErrMost, f}) }
	for name, at := range lists {
		add(name, front(at, numbered("n", 9)...))
		add(name, back(at, numbered("n", 9)...))
		add(name, back(at, slices.Repeat(list("n"), 1000)...))
	}
	add("Steps", stepFront(empties(numbered("n", 10)...)...))
	add("Steps", stepBack(empties(numbered("n", 10)...)...))
	add("Steps", stepBack(slices.Repeat(empties("n"), 1000)...))
	return faults
}

// nameFaults are those by which a name stands where it may not stand beside the others.
func nameFaults() []fault {
	var faults []fault
	add := func(name string, f func(*api.Rule)) { faults = append(faults, fault{name, api.ErrName, f}) }
	for name, doubled := range map[string][]string{"Ins": list("p q"), "Outs": list("a b"), "After": list("s")} {
		for _, s := range doubled {
			add(name, front(lists[name], s))
			add(name, back(lists[name], s))
		}
		add(name, back(lists[name], "u", "u"))
		add(name, front(lists[name], "u", "u"))
	}
	for _, s := range list("p q none r s") {
		add("Outs", front(outs, s))
		add("Outs", back(outs, s))
	}
	for _, s := range list("a b x") {
		add("Ins", front(ins, s))
		add("Ins", back(ins, s))
		add("Steps", stepFront(empties(s)...))
	}
	add("After", front(after, "r"))
	add("After", back(after, "r"))
	for _, s := range list("p q a b x") {
		add("Steps", stepBack(empties(s)...))
		add("Steps", stepBack(empties("y", "z", s)...))
		add("Steps", stepBack(api.Step{Out: s, Op: api.CCopy, Args: list("p")}))
		add("Steps", stepBack(api.Step{Out: s, Op: api.CSort, Args: []string{s}}))
	}
	for _, s := range list("y none r s") {
		add("Steps", stepBack(api.Step{Out: "y", Op: api.CCopy, Args: []string{s}}))
		add("Steps", stepFront(api.Step{Out: "y", Op: api.CConcat, Args: []string{"p", s}}))
		add("Steps", stepFront(api.Step{Out: "y", Op: api.CConcat, Args: []string{s, "p"}}))
	}
	for _, s := range list("x a b z") {
		add("Steps", stepFront(api.Step{Out: "y", Op: api.CConcat, Args: []string{"q", s, "p"}}))
	}
	add("Steps", stepBack(api.Step{Out: "y", Op: api.CCopy, Args: list("z")}, api.Step{Out: "z", Op: api.CCopy, Args: list("p")}))
	add("Steps", func(r *api.Rule) { r.Steps = r.Steps[:2] })
	add("Steps", func(r *api.Rule) { r.Steps = r.Steps[1:] })
	add("Steps", func(r *api.Rule) { r.Steps = nil })
	return faults
}

// Each error by itself, in each place where it may stand.
func TestEachFaultOfARule(t *testing.T) {
	for _, f := range slices.Concat(formFaults(), mostFaults(), nameFaults()) {
		r := example(t)
		f.make(&r)
		wantRule(t, r, f.code)
	}
}

// Of two errors the first of the chapter's order, whichever of them stands first in the rule.
func TestTwoFaultsOfARule(t *testing.T) {
	faults := slices.Concat(formFaults(), mostFaults(), nameFaults())
	rank := map[api.Errno]int{api.ErrForm: 1, api.ErrMost: 2, api.ErrName: 3}
	for _, f := range faults {
		for _, g := range faults {
			// Of one list, the later one may undo the earlier one.
			if f.name == g.name || f.name == "no Outs" && g.name == "Outs" || f.name == "Outs" && g.name == "no Outs" || rank[f.code] >= rank[g.code] {
				continue
			}
			for _, two := range [][]fault{{f, g}, {g, f}} {
				r := example(t)
				two[0].make(&r)
				two[1].make(&r)
				if got := check.Rule(r); got != f.code {
					t.Fatalf("P10.1: Rule of %.900s, with a fault %d in %s and %d in %s, = %d", fmt.Sprintf("%+v", r), f.code, f.name, g.code, g.name, got)
				}
			}
		}
	}
}

// Two errors in one list: a name that is not valid and one too many, or one twice, and so on.
func TestTwoFaultsOfOneList(t *testing.T) {
	for _, at := range lists {
		for _, l := range [][]string{append(numbered("n", 9), "a b"), append(list("/"), numbered("n", 9)...), list("u u in"), list("in u u"), list(". ."), slices.Repeat(list("out"), 20)} {
			for _, put := range []func(*api.Rule){front(at, l...), back(at, l...)} {
				r := example(t)
				put(&r)
				wantRule(t, r, api.ErrForm)
			}
		}
		r := example(t)
		back(at, append(numbered("n", 9), "n0", "p", "r", "s", "none")...)(&r)
		wantRule(t, r, api.ErrMost)
	}
	r := example(t)
	r.Steps = append(empties(append(numbered("n", 10), "p", "n0", "a")...), r.Steps...)
	wantRule(t, r, api.ErrMost)
	r.Steps = append(r.Steps, api.Step{Out: "last", Op: api.CCopy})
	wantRule(t, r, api.ErrForm)
	r.Steps = append(empties(".."), r.Steps[:16]...)
	wantRule(t, r, api.ErrForm)
}

// What may stand in a valid rule, though it may look wrong.
func TestRulesThatAreValid(t *testing.T) {
	long := strings.Repeat("n", 40)
	for _, text := range []string{
		`rule r { in p; out a; a = literal "l"; }`,                    // reads no In
		`rule r { in p; out a; a = copy p; x = copy p; y = copy x; }`, // makes what nothing reads
		`rule a { in b; out a; after b; a = copy b; }`,                // rules and files have names of their own
		`rule r { in p; out r; after p; r = copy p; }`,
		`rule r { in r; out a; after a; a = copy r; }`,
		`rule r { in p; out a; a = concat p p p p p p; }`,  // one Arg several times
		`rule r { out b, a; a = concat; b = concat a a; }`, // Outs in another order, that read each other
		`rule r { out a; after a, b, c, d, e, f, g, h; a = concat; }`,
		`rule r { in p; out d; a = copy p; b = copy a; c = concat a b; d = count c; }`,
		`rule R { in P, p, p.p, p/p; out a, A; after r; a = copy P; A = copy p/p; }`, // names that are nearly alike
		`rule ` + long + ` { in ` + long + `; out o; after r; o = copy ` + long + `; }`,
		`rule r { in ` + long[:39] + `; out ` + long + `; after ` + long + `; ` + long + ` = copy ` + long[:39] + `; }`,
		`rule in/out { in rule/r; out after.x; after Rule; after.x = select "x" rule/r; in. = replace "in" "out" after.x; }`,
		`rule r { in p; out a; x = prefix 0 p; y = prefix 2000 x; a = need y; }`,
		`rule r { out a; a = literal "` + strings.Repeat("l", 100) + `"; }`,
	} {
		wantRule(t, rulesOf(t, text)[0], api.OK)
	}
}

// Each step is held against those ahead of it alone, whatever the order: only one of six is right here.
func TestOrderOfSteps(t *testing.T) {
	ordersOf(example(t).Steps, func(steps []api.Step) {
		r := example(t)
		r.Steps = steps
		if steps[0].Out == "x" && steps[1].Out == "a" {
			wantRule(t, r, api.OK)
		} else {
			wantRule(t, r, api.ErrName)
		}
	})
}

// The orders of Ins, Outs and After make no difference.
func TestOrderOfLists(t *testing.T) {
	r := rulesOf(t, `rule r { in p, q, u; out a, b, c; after s, o, x; a = copy p; b = copy q; c = concat b a p; }`)[0]
	for _, at := range lists {
		ordersOf(*at(&r), func(l []string) {
			other := r
			*at(&other) = l
			wantRule(t, other, api.OK)
			*at(&other) = append(l, l[0])
			wantRule(t, other, api.ErrName)
		})
	}
}

// naiveRule is Rule, as the chapter says it.
func naiveRule(r api.Rule) api.Errno {
	twice := func(l []string) bool {
		return slices.ContainsFunc(l, func(s string) bool { return slices.Index(l, s) != len(l)-1-slices.Index(reversed(l), s) })
	}
	names := slices.Concat([]string{r.Name}, r.Ins, r.Outs, r.After)
	badStep, badName := false, false
	for i, s := range r.Steps {
		names = append(append(names, s.Out), s.Args...)
		badStep = badStep || !step.May(s)
		made := slices.ContainsFunc(r.Steps[:i], func(e api.Step) bool { return e.Out == s.Out })
		badName = badName || slices.Contains(r.Ins, s.Out) || made
		for _, arg := range s.Args {
			made := slices.ContainsFunc(r.Steps[:i], func(e api.Step) bool { return e.Out == arg })
			badName = badName || !slices.Contains(r.Ins, arg) && !made
		}
	}
	if badStep || len(r.Outs) == 0 || slices.ContainsFunc(names, func(s string) bool { return !path.May(s) }) {
		return api.ErrForm
	}
	if len(r.Ins) > 8 || len(r.Outs) > 4 || len(r.After) > 8 || len(r.Steps) > 12 {
		return api.ErrMost
	}
	for _, out := range r.Outs {
		made := slices.ContainsFunc(r.Steps, func(s api.Step) bool { return s.Out == out })
		badName = badName || slices.Contains(r.Ins, out) || !made
	}
	if badName || twice(r.Ins) || twice(r.Outs) || twice(r.After) || slices.Contains(r.After, r.Name) {
		return api.ErrName
	}
	return api.OK
}

// reversed returns a copy of l, from its end.
func reversed(l []string) []string {
	l = slices.Clone(l)
	slices.Reverse(l)
	return l
}

// anyRule returns a rule that is valid, or nearly so.
func anyRule(rnd *rand.Rand) api.Rule {
	names := list("a b c d e f g h i j k l m n o p q r s t u v w")
	rnd.Shuffle(len(names), func(i, j int) { names[i], names[j] = names[j], names[i] })
	few := func(most int) int { return rnd.IntN(most + 1) }
	n := few(8)
	r := api.Rule{Name: "r", Ins: slices.Clone(names[:n])}
	known := slices.Clone(r.Ins)
	var made []string
	for _, out := range names[n : n+1+few(11)] {
		s := api.Step{Out: out, Op: api.CConcat}
		if len(known) > 0 {
			for range few(6) {
				s.Args = append(s.Args, known[rnd.IntN(len(known))])
			}
		}
		r.Steps, known, made = append(r.Steps, s), append(known, out), append(made, out)
	}
	rnd.Shuffle(len(made), func(i, j int) { made[i], made[j] = made[j], made[i] })
	r.Outs = slices.Clone(made[:min(len(made), 1+few(3))])
	r.After = numbered("r", few(8))
	return r
}

// spoil changes something of r, which may well stay valid.
func spoil(rnd *rand.Rand, r *api.Rule) {
	anyName := func() string {
		if all := append(list("a b c d r0 r1 none r"), slices.Concat(r.Ins, r.Outs, r.After)...); rnd.IntN(12) > 0 {
			return all[rnd.IntN(len(all))]
		}
		bad := badNames()
		return bad[rnd.IntN(len(bad))]
	}
	s := &r.Steps[rnd.IntN(len(r.Steps))]
	l := []*[]string{&r.Ins, &r.Outs, &r.After, &s.Args}[rnd.IntN(4)]
	switch at := rnd.IntN(len(*l) + 1); rnd.IntN(9) {
	case 0:
		*l = slices.Insert(*l, at, anyName())
	case 1:
		*l = slices.Delete(*l, max(0, at-1), at)
	case 2:
		s.Out = anyName()
	case 3:
		r.Name = anyName()
	case 4:
		i, j := rnd.IntN(len(r.Steps)), rnd.IntN(len(r.Steps))
		r.Steps[i], r.Steps[j] = r.Steps[j], r.Steps[i]
	case 5:
		r.Steps = append(r.Steps, api.Step{Out: anyName(), Op: rnd.IntN(11), Args: []string{anyName()}})
	case 6:
		for i := range *l {
			if rnd.IntN(4) == 0 {
				(*l)[i] = anyName()
			}
		}
	case 7:
		*l = append(*l, numbered("n", rnd.IntN(6))...)
	case 8:
		s.N, s.Lits = rnd.IntN(2), nil
	}
}

// Made-up rules, against the chapter's words taken one by one.
func TestAnyRule(t *testing.T) {
	found := map[api.Errno]int{}
	for seed := range uint64(20000) {
		rnd := rand.New(rand.NewPCG(10, seed))
		r := anyRule(rnd)
		wantRule(t, r, api.OK)
		for range rnd.IntN(4) {
			spoil(rnd, &r)
		}
		want := naiveRule(r)
		wantRule(t, r, want)
		found[want]++
	}
	for _, code := range []api.Errno{api.OK, api.ErrForm, api.ErrMost, api.ErrName} {
		if found[code] < 1000 {
			t.Errorf("the made-up rules are lopsided: %d times %d", found[code], code)
		}
	}
}

// Rules that are valid together, and what All and Cycle answer then.
func TestRulesThatAreValidTogether(t *testing.T) {
	for _, text := range []string{
		``,
		`rule a { out x; x = concat; }`,
		`rule a { in none; out x; x = copy none; }`, // an In that no rule makes
		`rule a { in x; out y; y = copy x; } rule b { in y; out z; z = copy y; }`,
		`rule a { out x; after b; x = concat; } rule b { out y; y = concat; }`,                // the rule of After stands behind
		`rule a { in x; out y; after b; y = copy x; } rule b { out x; x = concat; }`,          // needs one rule in two ways
		`rule a { in s; out x; x = copy s; } rule b { in s; out y; y = copy s; }`,             // two that read one file
		`rule a { out x; m = concat; x = copy m; } rule b { out y; m = concat; y = copy m; }`, // m is of no consequence beyond its rule
		`rule a { in m; out x; x = copy m; } rule b { in x; out y; m = copy x; y = copy m; }`, // none makes the m that a reads
		`rule a { out m; m = concat; } rule b { in x; out y; m = copy x; y = copy m; }`,
		`rule a { in b; out x; x = copy b; } rule b { in x; out y; y = copy x; }`, // the file b is not the rule b
		`rule a { in x; out b; b = copy x; } rule b { out y; after a; y = concat; }`,
		`rule a { in b; out c; c = copy b; } rule b { in c; out d; d = copy c; } rule c { out a; a = literal "a"; }`,
		`rule x { out y; y = concat; } rule y { in y; out x; after x; x = copy y; }`,
		`rule a { out x; x = concat; } rule A { out X; X = concat; } rule aa { out xx; xx = concat; }`, // names that are nearly alike
	} {
		ordersOf(rulesOf(t, text), func(rs []api.Rule) {
			wantAll(t, rs, api.OK, "")
			wantCycle(t, rs)
		})
	}
	for _, rs := range [][]api.Rule{nil, {}} {
		wantAll(t, rs, api.OK, "")
		wantCycle(t, rs)
	}
}

// many returns n rules r0, r1 and so on, each of which makes a file of its own.
func many(n int) []api.Rule {
	var rs []api.Rule
	for i := range n {
		out := fmt.Sprint("o", i)
		rs = append(rs, api.Rule{Name: fmt.Sprint("r", i), Outs: []string{out}, Steps: empties(out)})
	}
	return rs
}

func TestHowManyRules(t *testing.T) {
	for _, n := range []int{0, 1, 2, 8, 39, 40} {
		wantAll(t, many(n), api.OK, "")
	}
	for _, n := range []int{41, 42, 80, 1000, 100000} {
		wantAll(t, many(n), api.ErrMost, "")
		wantCycle(t, many(n))
	}
	rs := many(40)
	rs[0].After, rs[39].After = list("r39"), list("r0")
	wantAll(t, rs, api.ErrCycle, "r0")
	wantCycle(t, rs, "r0", "r39")
	wantAll(t, append(rs, many(41)[40]), api.ErrMost, "")
	wantCycle(t, append(rs, many(41)[40]))
}

// Forty rules, each with all that a rule may have.
func TestGreatestRules(t *testing.T) {
	var rs []api.Rule
	for i := range 40 {
		var r api.Rule
		r.Name = fmt.Sprint("r", i)
		for j := range 8 {
			r.Ins = append(r.Ins, fmt.Sprint("o", (i+39-j)%40*4+j%4))
			r.After = append(r.After, fmt.Sprint("r", (i+38-j)%40))
		}
		for j := range 4 {
			r.Outs = append(r.Outs, fmt.Sprint("o", i*4+j))
		}
		r.Steps = empties(append(slices.Clone(r.Outs), numbered("x", 8)...)...)
		rs = append(rs, r)
	}
	wantAll(t, rs, api.ErrCycle, "r0")
	// Each needs the nine ahead of it, so that five of them lead round the forty.
	wantCycle(t, rs, list("r0 r31 r22 r13 r4")...)
	for i := range 9 {
		rs[i].Ins = slices.DeleteFunc(rs[i].Ins, func(in string) bool { return makes(rs[i+1:], in) })
		rs[i].After = numbered("r", min(i, 8))
	}
	wantAll(t, rs, api.OK, "")
	wantCycle(t, rs)
}

// makes reports whether one of the rules makes the file.
func makes(rs []api.Rule, file string) bool {
	return slices.ContainsFunc(rs, func(r api.Rule) bool { return slices.Contains(r.Outs, file) })
}

// An error of Rule is told with the name of the first rule that has one, whatever it is, valid or not.
func TestFaultsOfRuleInAll(t *testing.T) {
	for _, f := range slices.Concat(formFaults(), mostFaults(), nameFaults()) {
		r := example(t)
		f.make(&r)
		for at := range 4 {
			rs := slices.Insert(many(3), at, r)
			wantAll(t, rs, f.code, r.Name)
			wantCycle(t, rs)
		}
	}
	bad := rulesOf(t, `rule e { in p; out p; p = concat; } rule d { in n; out n, m; n = copy n; } rule c { out x; x = concat; }`)
	bad[2].Outs = nil
	codes := map[string]api.Errno{"e": api.ErrName, "d": api.ErrName, "c": api.ErrForm}
	ordersOf(bad, func(bad []api.Rule) {
		wantAll(t, append(many(2), bad...), codes[bad[0].Name], bad[0].Name)
		wantCycle(t, append(many(2), bad...))
	})
}

// The error of a rule that is too long has the rule's name, that of too many rules has none.
func TestBothErrMost(t *testing.T) {
	for _, n := range []int{40, 41} {
		rs := many(n)
		rs[7].After = numbered("r", 9)
		wantAll(t, rs, api.ErrMost, "r7")
		rs[3].After = numbered("n", 9)
		wantAll(t, rs, api.ErrMost, "r3")
	}
}

// The later rule of one name is told, or that makes a file which an earlier one makes, the first such in the list.
func TestNamesThatAreTaken(t *testing.T) {
	for text, want := range map[string]string{
		`rule a { out x; x = concat; } rule a { out y; y = concat; }`:                                                             "a",
		`rule b { out x; x = concat; } rule a { out x; x = concat; }`:                                                             "a",
		`rule a { out x; x = concat; } rule b { out x; x = concat; } rule a { out q; q = concat; }`:                               "b",
		`rule a { out x; x = concat; } rule a { out q; q = concat; } rule b { out x; x = concat; }`:                               "a",
		`rule c { out x; x = concat; } rule b { out y; y = concat; } rule a { out x; x = concat; } rule b { out z; z = concat; }`: "a",
		`rule c { out x; x = concat; } rule b { out y; y = concat; } rule b { out z; z = concat; } rule a { out x; x = concat; }`: "b",
		`rule a { out x, y; x = concat; y = concat; } rule b { out u, v, y; u = concat; v = concat; y = concat; }`:                "b",
		`rule a { out y, x; x = concat; y = concat; } rule b { out y, v, u; u = concat; v = concat; y = concat; }`:                "b",
		`rule a { out x; x = concat; } rule b { out y; y = concat; } rule c { out z; z = concat; } rule d { out y; y = concat; }`: "d",
		`rule a { out x; x = concat; } rule a { out x; x = concat; } rule b { out x; x = concat; }`:                               "a",
		`rule a { in s; out x; x = copy s; } rule b { in s; out x; x = copy s; }`:                                                 "b",
		`rule a { out x; after b; x = concat; } rule b { out x; after a; x = concat; }`:                                           "b",
		`rule a { in x; out y; y = copy x; } rule b { in y; out x; x = copy y; } rule c { in y; out x; x = copy y; }`:             "c",
		`rule a { in x; out y; y = copy x; } rule b { in y; out x; x = copy y; } rule b { out z; z = concat; }`:                   "b",
		`rule a { out x; after none; x = concat; } rule b { out x; x = concat; }`:                                                 "b",
		`rule b { out x; after none; x = concat; } rule a { out y; y = concat; } rule a { out z; after none; z = concat; }`:       "a",
		`rule a { out a; a = concat; } rule b { out b; after none; b = concat; } rule c { out a; a = concat; }`:                   "c",
	} {
		rs := rulesOf(t, text)
		wantAll(t, rs, api.ErrName, want)
		wantCycle(t, rs)
	}
}

// The first rule in the list is told whose After has a name that no rule has.
func TestNamesThatNoRuleHas(t *testing.T) {
	for text, want := range map[string]string{
		`rule a { out x; after none; x = concat; }`:                                                                                "a",
		`rule a { out x; after x; x = concat; }`:                                                                                   "a", // x is a file
		`rule a { in s; out x; after s; x = copy s; } rule b { out y; y = concat; }`:                                               "a",
		`rule a { out x; after b, none; x = concat; } rule b { out y; y = concat; }`:                                               "a",
		`rule a { out x; after none, b; x = concat; } rule b { out y; y = concat; }`:                                               "a",
		`rule c { out x; after b; x = concat; } rule b { out y; after none; y = concat; } rule a { out z; after no; z = concat; }`: "b",
		`rule a { out x; x = concat; } rule b { out y; after A; y = concat; }`:                                                     "b",
		`rule a { out x; x = concat; } rule b { out y; after aa; y = concat; }`:                                                    "b",
		`rule aa { out x; x = concat; } rule b { out y; after a; y = concat; }`:                                                    "b",
		`rule a { out x; after b; x = concat; } rule b { out y; after a, none; y = concat; }`:                                      "b", // and a cycle
		`rule a { in y; out x; x = copy y; } rule b { in x; out y; y = copy x; } rule c { out z; after none; z = concat; }`:        "c",
	} {
		rs := rulesOf(t, text)
		wantAll(t, rs, api.ErrName, want)
		wantCycle(t, rs)
	}
}

// Each two errors of All in one list of rules, in every order of these: the earlier one of the chapter is told.
func TestTwoFaultsOfAll(t *testing.T) {
	named := func(text string) []api.Rule { return rulesOf(t, text) }
	long := many(41)
	for i := range long {
		long[i].Name = fmt.Sprint("m", i)
		long[i].Outs, long[i].Steps = []string{fmt.Sprint("p", i)}, empties(fmt.Sprint("p", i))
	}
	faults := []struct {
		rs   []api.Rule
		code api.Errno
		name string
	}{
		{named(`rule own { in s; out s; s = concat; }`), api.ErrName, "own"},
		{long, api.ErrMost, ""},
		{named(`rule two { out u; u = concat; } rule two { out v; v = concat; }`), api.ErrName, "two"},
		{named(`rule lost { out l; after none; l = concat; }`), api.ErrName, "lost"},
		{named(`rule c1 { in f; out e; e = copy f; } rule c2 { in e; out f; f = copy e; }`), api.ErrCycle, "c1"},
	}
	for i, f := range faults {
		wantAll(t, f.rs, f.code, f.name)
		for _, g := range faults[i+1:] {
			for _, rs := range [][]api.Rule{slices.Concat(f.rs, g.rs), slices.Concat(g.rs, f.rs), slices.Concat(many(2), g.rs, f.rs)} {
				wantAll(t, rs, f.code, f.name)
				wantCycle(t, rs)
			}
		}
	}
}

// ways are those by which a rule may need another one: by After, by an In, by both, or now by one and now by the other.
var ways = []func(from, to int) (byAfter, byIn bool){
	func(int, int) (bool, bool) { return true, false },
	func(int, int) (bool, bool) { return false, true },
	func(int, int) (bool, bool) { return true, true },
	func(from, _ int) (bool, bool) { return from%2 == 0, from%2 == 1 },
	func(from, _ int) (bool, bool) { return from%2 == 1, from%2 == 0 },
	func(_, to int) (bool, bool) { return to%2 == 0, to%2 == 1 },
	func(from, to int) (bool, bool) { return (from+to)%2 == 1, (from+to)%2 == 0 },
}

// needing returns rules that need each other: of each list of words, the first one needs the others.
func needing(way func(from, to int) (bool, bool), lists ...string) []api.Rule {
	var rs []api.Rule
	for from, words := range lists {
		l := list(words)
		r := api.Rule{Name: l[0], Outs: []string{"o/" + l[0]}, Steps: empties("o/" + l[0])}
		for to, name := range l[1:] {
			byAfter, byIn := way(from, to)
			if byAfter {
				r.After = append(r.After, name)
			}
			if byIn {
				r.Ins = append(r.Ins, "o/"+name)
			}
		}
		rs = append(rs, r)
	}
	return rs
}

func TestCycles(t *testing.T) {
	for _, x := range []struct{ rules, want string }{
		{"a", ""}, {"a b,b", ""}, {"a b c,b c,c", ""}, {"d c b a,c b a,b a,a", ""}, {"a b c,b d,c d,d", ""},
		{"a b,b a", "a b"}, {"z y,y z", "y z"}, {"a b,b c,c a", "a b c"}, {"a c,c b,b a", "a c b"}, {"a d,d b,b c,c a", "a d b c"},
		{"a b,b a c,c", "a b"}, {"a b c,b a,c", "a b"}, // leads to one that lies on none
		{"a b,b c,c b", "b c"}, {"a c,b c,c d,d c", "c d"}, {"a b,b c,c d,d c", "c d"}, // the least name lies on none
		{"a z,z b,b z", "b z"}, {"a b c,b c,c b", "b c"},
		{"a b,b a,c d,d c", "a b"}, {"c d,d c,b a,a b", "a b"}, {"a d,d a,b c,c b", "a d"}, {"z y,y z,b x,x c,c b", "b x c"}, // two cycles
		{"a b,b c d,c a,d b", "a b c"}, {"b c,c b a,a b", "a b c"}, {"a c,c b d,b c,d a", "a c d"}, // a shorter one that the least is not on
		{"a b,b c d,c d,d b c", "b d"}, {"a b d,b c,c a,d a", "a d"}, {"a b z,b c,c a,z a", "a z"}, // the shorter of two from one
		{"a b c,b a,c a", "a b"}, {"a c b,b a,c a", "a b"}, {"a c d,c b,d b,b a", "a c b"}, {"a d c,c b,d b,b a", "a c b"}, // several shortest
		{"a b,b d c,c a,d a", "a b c"}, {"a c b,b e,c d,d a,e a", "a b e"}, {"a b c,b e,c d,d a,e a", "a b e"},
		{"a b c,b z,c d,d a,z a", "a b z"}, {"a b c,b x,c d,d a,x z,z a", "a c d"}, {"a c e,c d,e b,d a,b a", "a c d"},
	} {
		for _, way := range ways {
			rs := needing(way, strings.Split(x.rules, ",")...)
			ordersOf(rs, func(rs []api.Rule) {
				wantCycle(t, rs, list(x.want)...)
				code, first := api.OK, ""
				if x.want != "" {
					code, first = api.ErrCycle, list(x.want)[0]
				}
				wantAll(t, rs, code, first)
			})
		}
	}
}

// A rule that would need itself is none that is valid, so that there is no cycle either.
func TestRuleThatNeedsItself(t *testing.T) {
	for _, text := range []string{
		`rule a { in x; out x; x = concat; }`,
		`rule a { in x; out x; y = copy x; }`,
		`rule a { out x; after a; x = concat; }`,
		`rule a { in x; out y, x; after a; y = copy x; x = concat; }`,
	} {
		rs := rulesOf(t, text)
		wantAll(t, rs, api.ErrName, "a")
		wantCycle(t, rs)
		rs = append(needing(ways[0], "c d", "d c"), rs...)
		wantAll(t, rs, api.ErrName, "a")
		wantCycle(t, rs)
	}
}

// Any file that a rule makes and any In of another one join the two, whatever the steps do with them.
func TestNeedsByFiles(t *testing.T) {
	files := list("w x y z")
	for i, made := range files {
		for at := range 8 {
			a := api.Rule{Name: "a", Ins: numbered("i", 7), Outs: slices.Clone(files), Steps: empties(files...)}
			a.Ins = slices.Insert(a.Ins, at, "m")
			b := api.Rule{Name: "b", Ins: slices.Insert(numbered("j", 7), 7-at, made), Outs: list("n m"), Steps: empties("m", "n")}
			ordersOf([]api.Rule{a, b}, func(rs []api.Rule) { wantCycle(t, rs, "a", "b") })
			a.Outs = slices.Delete(a.Outs, i, i+1)
			ordersOf([]api.Rule{a, b}, func(rs []api.Rule) { wantCycle(t, rs) })
			a.After = append(numbered("b", 7), "b")
			if i%2 == 0 {
				a.After = append([]string{"b"}, numbered("b", 7)...)
			}
			b.After = list("a")
			rs := append([]api.Rule{a, b}, many(7)...)
			for k := range 7 {
				rs[k+2].Name = fmt.Sprint("b", k)
			}
			wantCycle(t, rs, "a", "b")
		}
	}
}

// ring returns n rules each of which needs the next one, and the last the first.
func ring(way func(from, to int) (bool, bool), n int) ([]api.Rule, []string) {
	var needs, names []string
	for i := range n {
		names = append(names, fmt.Sprintf("r%02d", i))
		needs = append(needs, fmt.Sprintf("r%02d r%02d", i, (i+1)%n))
	}
	return needing(way, needs...), names
}

func TestRings(t *testing.T) {
	for _, n := range []int{2, 3, 4, 9, 17, 39, 40} {
		for _, way := range ways {
			rs, names := ring(way, n)
			wantCycle(t, rs, names...)
			slices.Reverse(rs)
			wantCycle(t, rs, names...)
			wantAll(t, rs, api.ErrCycle, "r00")
			for i := range rs {
				open := slices.Clone(rs)
				open[i].Ins, open[i].After = nil, nil
				wantCycle(t, open)
				wantAll(t, open, api.OK, "")
			}
		}
	}
}

// The most ways that rules may have from one to another, some hundred million and more, take no longer than one.
func TestVeryManyWays(t *testing.T) {
	var needs []string
	for i := range 40 {
		words := []string{fmt.Sprintf("r%02d", i)}
		for j := i + 1; j <= min(i+8, 39); j++ {
			words = append(words, fmt.Sprintf("r%02d", j))
		}
		needs = append(needs, strings.Join(words, " "))
	}
	for _, way := range ways[:3] {
		rs := needing(way, needs...)
		wantAll(t, rs, api.OK, "")
		wantCycle(t, rs)
		rs[39].After = list("r00")
		wantAll(t, rs, api.ErrCycle, "r00")
		wantCycle(t, rs, list("r00 r07 r15 r23 r31 r39")...)
		rs[39].After = list("r38")
		wantCycle(t, rs, list("r38 r39")...)
	}
}

// needsOf returns the names of the rules that r needs, as the chapter says it.
func needsOf(rs []api.Rule, r api.Rule) []string {
	needs := slices.Clone(r.After)
	for _, other := range rs {
		if slices.ContainsFunc(other.Outs, func(out string) bool { return slices.Contains(r.Ins, out) }) {
			needs = append(needs, other.Name)
		}
	}
	return needs
}

// cyclesFrom returns all cycles of at most so many rules that begin as way does.
func cyclesFrom(rs []api.Rule, needs map[string][]string, way []string, most int) [][]string {
	var all [][]string
	for _, next := range needs[way[len(way)-1]] {
		if next == way[0] {
			all = append(all, slices.Clone(way))
		} else if !slices.Contains(way, next) && len(way) < most {
			all = append(all, cyclesFrom(rs, needs, append(slices.Clone(way), next), most)...)
		}
	}
	return all
}

// shortest returns what Cycle is to return for rules without another error, out of all cycles that there are.
func shortest(rs []api.Rule) []string {
	needs := map[string][]string{}
	for _, r := range rs {
		needs[r.Name] = needsOf(rs, r)
	}
	var names []string
	for name := range needs {
		names = append(names, name)
	}
	slices.Sort(names)
	for _, name := range names {
		for most := 2; most <= len(rs); most++ {
			if all := cyclesFrom(rs, needs, []string{name}, most); len(all) > 0 {
				return slices.MinFunc(all, func(a, b []string) int { return cmp.Or(len(a)-len(b), slices.Compare(a, b)) })
			}
		}
	}
	return nil
}

// anyRules returns rules that need each other in any ways, with one name twice, one file too often or one After too
// many now and then.
func anyRules(rnd *rand.Rand) []api.Rule {
	names := list("a b c d e f g a.b a/b aa Z")
	rnd.Shuffle(len(names), func(i, j int) { names[i], names[j] = names[j], names[i] })
	names = names[:rnd.IntN(8)]
	files, many := numbered("o", 12), rnd.IntN(3)
	var rs []api.Rule
	for i, name := range names {
		r := api.Rule{Name: name, Outs: []string{files[i]}}
		if rnd.IntN(3) == 0 && i < 4 {
			r.Outs = append(r.Outs, files[8+i])
		}
		for range rnd.IntN(many + 1) {
			r.Ins = append(r.Ins, files[rnd.IntN(len(files))])
			r.After = append(r.After, names[rnd.IntN(len(names))])
		}
		// Every other one leads on to its neighbour, for longer cycles.
		if rnd.IntN(2) == 0 {
			r.Ins = append(r.Ins, files[(i+1)%len(names)])
		}
		switch rnd.IntN(60) {
		case 0:
			r.Name = names[rnd.IntN(len(names))]
		case 1:
			r.Outs = append(r.Outs, files[rnd.IntN(len(files))])
		case 2:
			r.After = append(r.After, "none")
		case 3:
			r.Ins = append(r.Ins, r.Outs...)
		}
		// Mostly valid by themselves, else there would be little left to look at.
		if rnd.IntN(40) > 0 {
			slices.Sort(r.Ins)
			r.Ins = slices.DeleteFunc(slices.Compact(r.Ins), func(in string) bool { return slices.Contains(r.Outs, in) })
			slices.Sort(r.After)
			r.After = slices.DeleteFunc(slices.Compact(r.After), func(name string) bool { return name == r.Name })
		}
		r.Steps = empties(r.Outs...)
		rs = append(rs, r)
	}
	return rs
}

// naiveAll is All but for cycles, as the chapter says it.
func naiveAll(rs []api.Rule) (api.Errno, string) {
	for _, r := range rs {
		if code := naiveRule(r); code != api.OK {
			return code, r.Name
		}
	}
	for i, r := range rs {
		for _, earlier := range rs[:i] {
			if earlier.Name == r.Name || makes([]api.Rule{earlier}, r.Outs[0]) || makes([]api.Rule{earlier}, r.Outs[len(r.Outs)-1]) {
				return api.ErrName, r.Name
			}
		}
	}
	for _, r := range rs {
		for _, name := range r.After {
			if !slices.ContainsFunc(rs, func(other api.Rule) bool { return other.Name == name }) {
				return api.ErrName, r.Name
			}
		}
	}
	return api.OK, ""
}

// Made-up lists of rules, against the chapter's words taken one by one, and all cycles that there are.
func TestAnyRules(t *testing.T) {
	found, long := map[api.Errno]int{}, 0
	for seed := range uint64(20000) {
		rs := anyRules(rand.New(rand.NewPCG(11, seed)))
		code, name := naiveAll(rs)
		var cycle []string
		if code == api.OK {
			if cycle = shortest(rs); cycle != nil {
				code, name = api.ErrCycle, cycle[0]
			}
		}
		wantAll(t, rs, code, name)
		wantCycle(t, rs, cycle...)
		found[code]++
		if len(cycle) > 2 {
			long++
		}
	}
	for _, code := range []api.Errno{api.OK, api.ErrName, api.ErrCycle} {
		if found[code] < 2000 {
			t.Errorf("the made-up rules are lopsided: %d times %d", found[code], code)
		}
	}
	if long < 1000 {
		t.Errorf("the made-up rules are lopsided: %d cycles of three and more", long)
	}
}

// anyStep returns a valid step that makes out, of some of these files.
func anyStep(rnd *rand.Rand, out string, of []string) api.Step {
	lit := func() string {
		b := make([]byte, 1+rnd.IntN(100))
		for i := range b {
			b[i] = byte(rnd.IntN(256))
		}
		return string(b)
	}
	s := api.Step{Out: out, Op: api.CCopy + rnd.IntN(api.CPrefix), Args: []string{of[rnd.IntN(len(of))]}}
	switch s.Op {
	case api.CConcat:
		s.Args = of[:rnd.IntN(min(len(of), api.MaxArgs)+1)]
	case api.CLiteral:
		s.Args, s.Lits = nil, []string{lit()}
	case api.CSelect:
		s.Lits = []string{lit()}
	case api.CReplace:
		s.Lits = []string{lit(), lit()}
	case api.CPrefix:
		s.N = rnd.IntN(api.MaxBytes + 1)
	}
	return s
}

// W6, for rules that All accepts: printed and read again, they are the same.
func TestRoundTrip(t *testing.T) {
	accepted := 0
	for seed := range uint64(5000) {
		rnd := rand.New(rand.NewPCG(13, seed))
		rs := anyRules(rnd)
		for i, r := range rs {
			files := append(list("x"), r.Ins...)
			rs[i].Steps = empties("x")
			for _, out := range r.Outs {
				rs[i].Steps = append(rs[i].Steps, anyStep(rnd, out, files))
				files = append(files, out)
			}
		}
		if code, _ := check.All(rs); code != api.OK {
			continue
		}
		text := print.File(rs)
		if got := rulesOf(t, text); !print.Eq(got, print.Sorted(rs)) || print.File(got) != text {
			t.Errorf("W6: %.900q is read as %.900s", text, fmt.Sprintf("%+v", got))
		}
		accepted++
	}
	if accepted < 1000 {
		t.Errorf("the made-up rules are lopsided: %d are accepted", accepted)
	}
}

// What Cycle returns is what it promises, for forty rules too: each needs the next one, and none stands there twice.
func TestCyclesOfManyRules(t *testing.T) {
	for seed := range uint64(500) {
		rnd := rand.New(rand.NewPCG(12, seed))
		rs := many(2 + rnd.IntN(39))
		for i := range rs {
			for j := range rs {
				if i != j && rnd.IntN(len(rs)) == 0 && len(rs[i].After) < 8 {
					rs[i].After = append(rs[i].After, rs[j].Name)
				}
			}
		}
		cycle := check.Cycle(rs)
		for i, name := range cycle {
			at := slices.IndexFunc(rs, func(r api.Rule) bool { return r.Name == name })
			if next := cycle[(i+1)%len(cycle)]; at < 0 || !slices.Contains(rs[at].After, next) || slices.Index(cycle, name) != i {
				t.Errorf("P10.2: Cycle of %+v = %q, which is none at %q", rs, cycle, name)
			}
		}
		rnd.Shuffle(len(rs), func(i, j int) { rs[i], rs[j] = rs[j], rs[i] })
		for i := range rs {
			rnd.Shuffle(len(rs[i].After), func(j, k int) { rs[i].After[j], rs[i].After[k] = rs[i].After[k], rs[i].After[j] })
		}
		wantCycle(t, rs, cycle...)
		if len(cycle) == 0 {
			wantAll(t, rs, api.OK, "")
		} else {
			wantAll(t, rs, api.ErrCycle, cycle[0])
		}
	}
}

// room returns a copy of s with spare room, in which more stands.
func room[E any](s []E, more E) []E {
	all := append(make([]E, 0, len(s)+3), s...)
	return append(all, more, more, more)[:len(s)]
}

// roomy returns copies of the rules, whose lists all have spare room, in which spare stands.
func roomy(rs []api.Rule, spare string) []api.Rule {
	rs = room(rs, api.Rule{Name: spare})
	for i, r := range rs {
		r.Ins, r.Outs, r.After = room(r.Ins, spare), room(r.Outs, spare), room(r.After, spare)
		r.Steps = room(r.Steps, api.Step{Out: spare})
		for j, s := range r.Steps {
			r.Steps[j].Args, r.Steps[j].Lits = room(s.Args, spare), room(s.Lits, spare)
		}
		rs[i] = r
	}
	return rs
}

// spread returns a deep copy of the rules, with what stands in the spare room of their lists.
func spread(rs []api.Rule) []api.Rule {
	all := func(s []string) []string { return slices.Clone(s[:cap(s)]) }
	rs = slices.Clone(rs[:cap(rs)])
	for i, r := range rs {
		r.Ins, r.Outs, r.After = all(r.Ins), all(r.Outs), all(r.After)
		r.Steps = slices.Clone(r.Steps[:cap(r.Steps)])
		for j, s := range r.Steps {
			r.Steps[j].Args, r.Steps[j].Lits = all(s.Args), all(s.Lits)
		}
		rs[i] = r
	}
	return rs
}

// someRules are lists of rules of all that All may answer.
func someRules(t *testing.T) [][]api.Rule {
	t.Helper()
	return [][]api.Rule{
		rulesOf(t, `rule r { in p, q; out b, a; after s; x = concat p q; a = replace "a" "b" x; b = sort a; } rule s { out m; m = literal "m"; }`),
		rulesOf(t, `rule z { in y, w; out x, v; after c; x = copy y; v = copy w; } rule c { in x; out y; after a; y = copy x; } rule a { out a; a = concat; }`),
		rulesOf(t, `rule d { out d; after c, b; d = concat; } rule c { out c; after d; c = concat; } rule b { out b; after d; b = concat; }`),
		rulesOf(t, `rule b { out x; x = concat; } rule a { out x; x = concat; }`),
		rulesOf(t, `rule b { out x; after none; x = concat; } rule a { out y; after no; y = concat; }`),
		rulesOf(t, `rule b { in x, x; out y; after b; y = concat z y; }`),
		{{Name: "in", Ins: list("b a"), Outs: list("d c"), After: list("b a"), Steps: []api.Step{{Out: "..", Args: list("y x"), Lits: list("y x")}}}},
		many(41),
	}
}

// Neither the lists of rules nor their spare room change, nor the order of the rules.
func TestWhatIsPassedInStays(t *testing.T) {
	for _, rs := range someRules(t) {
		rs = roomy(rs, "spare")
		was := spread(rs)
		check.All(rs)
		check.Cycle(rs)
		for _, r := range rs {
			check.Rule(r)
		}
		if !reflect.DeepEqual(spread(rs), was) {
			t.Errorf("P10.1: a call changed its rules to %+v", spread(rs))
		}
	}
}

// What stands in the spare room of lists is no part of them, whether it would make rules wrong or right.
func TestSpareRoomIsNotRead(t *testing.T) {
	for _, plain := range someRules(t) {
		for _, spare := range append(list("in spare a x r none"), "") {
			rs := roomy(plain, spare)
			for i, r := range rs {
				wantRule(t, r, check.Rule(plain[i]))
			}
			code, name := check.All(plain)
			wantAll(t, rs, code, name)
			wantCycle(t, rs, check.Cycle(plain)...)
		}
	}
}

// What is returned is the caller's own, its spare room among that.
func TestAnswersAreNew(t *testing.T) {
	for _, rs := range someRules(t)[1:3] {
		rs = roomy(rs, "spare")
		was, want := spread(rs), check.Cycle(rs)
		answers := [][]string{check.Cycle(rs), check.Cycle(rs), check.Cycle(rs)}
		for i, answer := range answers {
			answer = answer[:cap(answer)]
			for j := range answer {
				answer[j] = "changed"
			}
			// Ahead of the next call, which would make a shared one good again.
			for _, later := range answers[i+1:] {
				if !slices.Equal(later, want) {
					t.Fatalf("P10.2: an answer beside one that was changed is %q, not %q", later, want)
				}
			}
			wantCycle(t, rs, want...)
			if !reflect.DeepEqual(spread(rs), was) {
				t.Fatalf("P10.2: an answer shares memory with its rules, which are now %+v", spread(rs))
			}
		}
	}
}

// No answer hangs on an earlier call, nor on what became of the rules since.
func TestNothingIsKept(t *testing.T) {
	rs := rulesOf(t, `rule a { in y; out x; x = copy y; } rule b { in x; out y; y = copy x; }`)
	other := rulesOf(t, `rule a { in x; out y; y = copy x; } rule d { out x; after c; x = concat; } rule c { out z; after d; z = concat; }`)
	for range 3 {
		wantAll(t, rs, api.ErrCycle, "a")
		wantCycle(t, rs, "a", "b")
		wantRule(t, rs[0], api.OK)
		wantAll(t, other, api.ErrCycle, "c")
		wantCycle(t, other, "c", "d")
		wantRule(t, api.Rule{Name: "a", Ins: list("x"), Outs: list("x"), Steps: empties("x")}, api.ErrName)
	}
	was := check.Cycle(rs)
	rs[0].Ins[0], rs[0].Steps[0].Args[0] = "z", "z"
	wantAll(t, rs, api.OK, "")
	wantCycle(t, rs)
	rs[1].Name = "e"
	if !slices.Equal(was, list("a b")) {
		t.Errorf("P10.2: an answer became %q, as its rules changed", was)
	}
	rs[0].Ins[0] = "x"
	wantRule(t, rs[0], api.ErrName)
	wantAll(t, rs, api.ErrName, "a")
}

// Long lists, and long names, end soon.
func TestLongLists(t *testing.T) {
	n, long := 1<<18, strings.Repeat("n", 1<<20)
	names := numbered("n", n)
	wantRule(t, api.Rule{Name: "r", Ins: names, Outs: list("a"), Steps: empties("a")}, api.ErrMost)
	wantRule(t, api.Rule{Name: "r", Outs: names, Steps: empties("a")}, api.ErrMost)
	wantRule(t, api.Rule{Name: "r", Outs: list("a"), After: names, Steps: empties("a")}, api.ErrMost)
	wantRule(t, api.Rule{Name: "r", Outs: list("a"), Steps: empties(names...)}, api.ErrMost)
	wantRule(t, api.Rule{Name: "r", Ins: append(names, "."), Outs: list("a"), Steps: empties("a")}, api.ErrForm)
	wantRule(t, api.Rule{Name: "r", Outs: list("a"), Steps: []api.Step{{Out: "a", Op: api.CConcat, Args: names}}}, api.ErrForm)
	wantRule(t, api.Rule{Name: "r", Outs: list("a"), Steps: []api.Step{{Out: "a", Op: api.CLiteral, Lits: names}}}, api.ErrForm)
	wantRule(t, api.Rule{Name: long, Outs: list("a"), Steps: empties("a")}, api.ErrForm)
	wantRule(t, api.Rule{Name: "r", Outs: list("a"), Steps: []api.Step{{Out: "a", Op: api.CLiteral, Lits: []string{long}}}}, api.ErrForm)
	wantAll(t, []api.Rule{{Name: long}}, api.ErrForm, long)
	wantCycle(t, []api.Rule{{Name: long}})
	wantAll(t, make([]api.Rule, n), api.ErrForm, "")
	wantCycle(t, make([]api.Rule, n))
	rs := slices.Repeat(many(1), n)
	wantAll(t, rs, api.ErrMost, "")
	rs[n-1].After = list("r0")
	wantAll(t, rs, api.ErrName, "r0")
	wantCycle(t, rs)
}
