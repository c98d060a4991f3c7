package slice_test

import (
	"fmt"
	"math"
	"math/rand/v2"
	"reflect"
	"slices"
	"strings"
	"testing"

	"shipwright/api"
	"shipwright/parse"
	"shipwright/run"
	"shipwright/slice"
)

// list returns the words of s.
func list(s string) []string { return strings.Fields(s) }

// ruleOf returns the one rule of a rule file.
func ruleOf(t *testing.T, text string) api.Rule {
	t.Helper()
	rs, err := parse.File(text)
	if err.Code != api.OK || len(rs) != 1 {
		t.Fatalf("parse.File(%q) = %d rules, %+v", text, len(rs), err)
	}
	return rs[0]
}

// wantList fails unless a call answered want.
func wantList[E comparable](t *testing.T, r api.Rule, call string, got, want []E) {
	t.Helper()
	if !slices.Equal(got, want) {
		t.Errorf("P9.1: %s of %.900s = %.300s, not %.300s", call, fmt.Sprintf("%+v", r), fmt.Sprintf("%+v", got), fmt.Sprintf("%+v", want))
	}
}

// wantSteps fails unless Steps(r, out) is want.
func wantSteps(t *testing.T, r api.Rule, out string, want ...int) {
	t.Helper()
	wantList(t, r, fmt.Sprintf("Steps for %q", out), slice.Steps(r, out), want)
}

// wantReads fails unless Reads(r, out) is the words of want.
func wantReads(t *testing.T, r api.Rule, out, want string) {
	t.Helper()
	wantList(t, r, fmt.Sprintf("Reads for %q", out), slice.Reads(r, out), list(want))
}

// wantAll fails unless All(r) is the words of want.
func wantAll(t *testing.T, r api.Rule, want string) {
	t.Helper()
	wantList(t, r, "All", slice.All(r), list(want))
}

// wantDead fails unless Dead(r) is want.
func wantDead(t *testing.T, r api.Rule, want ...int) {
	t.Helper()
	wantList(t, r, "Dead", slice.Dead(r), want)
}

// ordersOf calls f with l in every order.
func ordersOf[E any](l []E, f func([]E)) {
	var place func(at int)
	place = func(at int) {
		if at == len(l) {
			f(slices.Clone(l))
			return
		}
		for i := at; i < len(l); i++ {
			l[at], l[i] = l[i], l[at]
			place(at + 1)
			l[at], l[i] = l[i], l[at]
		}
	}
	l = slices.Clone(l)
	place(0)
}

// example is the rule of the chapter's example.
func example(t *testing.T) api.Rule {
	t.Helper()
	return ruleOf(t, `rule r { in z, p, q, u; out b, a;
  x = concat z p; y = sort x; dead = copy q; a = count x; worse = copy dead; b = concat y a p z; last = copy b; }`)
}

func TestExample(t *testing.T) {
	r := example(t)
	wantSteps(t, r, "a", 0, 3)
	wantSteps(t, r, "b", 0, 1, 3, 5)
	wantReads(t, r, "a", "p z")
	wantReads(t, r, "b", "p z")
	wantAll(t, r, "p z")
	wantDead(t, r, 2, 4, 6)
}

// What the chapter says of any file, for all others of its rule.
func TestOtherFilesOfTheExample(t *testing.T) {
	r := example(t)
	wantSteps(t, r, "x", 0)
	wantSteps(t, r, "y", 0, 1)
	wantSteps(t, r, "dead", 2)
	wantSteps(t, r, "worse", 2, 4)
	wantSteps(t, r, "last", 0, 1, 3, 5, 6)
	for out, want := range map[string]string{"x": "p z", "y": "p z", "dead": "q", "worse": "q", "last": "p z"} {
		wantReads(t, r, out, want)
	}
}

// A file that no step makes depends on no step and reads nothing: an In, whatever reads it, and a name of none.
func TestFilesThatNoStepMakes(t *testing.T) {
	r := example(t)
	for _, out := range append(list("z p q u r none s A B a/b a. .a b/ aa ba concat in"), "", " ", "\x00", "a ", "a\n", "\xff", strings.Repeat("a", 1<<20)) {
		wantSteps(t, r, out)
		wantReads(t, r, out, "")
	}
}

// A step without Args depends on itself alone, and reads nothing.
func TestStepsWithoutArgs(t *testing.T) {
	for _, command := range []string{`literal "p"`, `literal ""`, `concat`} {
		r := ruleOf(t, `rule r { in p; out a; x = copy p; a = `+command+`; y = copy a; }`)
		wantSteps(t, r, "a", 1)
		wantReads(t, r, "a", "")
		wantAll(t, r, "")
		wantDead(t, r, 0, 2)
		wantSteps(t, r, "y", 1, 2)
		wantReads(t, r, "y", "")
		r = ruleOf(t, `rule r { in p; out b; a = `+command+`; b = concat a p a; }`)
		wantSteps(t, r, "b", 0, 1)
		wantReads(t, r, "b", "p")
		wantAll(t, r, "p")
		wantDead(t, r)
	}
}

// A file reads its step's Args, whatever the command, and neither its strings nor its number.
func TestEachCommand(t *testing.T) {
	for command, want := range map[string]string{
		`copy p`: "p", `need p`: "p", `sort p`: "p", `count p`: "p", `concat p`: "p", `concat q p`: "p q",
		`literal "p"`: "", `select "q" p`: "p", `replace "q" "m" p`: "p", `prefix 0 p`: "p", `prefix 1 p`: "p", `prefix 2000 p`: "p",
	} {
		r := ruleOf(t, `rule r { in q, p; out a; m = sort q; a = `+command+`; }`)
		wantSteps(t, r, "a", 1)
		wantReads(t, r, "a", want)
		wantAll(t, r, want)
		wantDead(t, r, 0)
	}
}

// chain returns a rule of n steps, each of which reads the one before, the first of them p.
func chain(n int) api.Rule {
	r := api.Rule{Name: "r", Ins: list("p"), Outs: []string{fmt.Sprintf("s%d", n-1)}}
	arg := "p"
	for i := range n {
		out := fmt.Sprintf("s%d", i)
		r.Steps = append(r.Steps, api.Step{Out: out, Op: api.CCopy, Args: []string{arg}})
		arg = out
	}
	return r
}

// upTo returns the numbers from 0 on, n of them.
func upTo(n int) []int {
	var all []int
	for i := range n {
		all = append(all, i)
	}
	return all
}

// Dependencies go through all steps between, and a step behind the one that makes the file is none.
func TestThroughOthers(t *testing.T) {
	for n := 1; n <= api.MaxSteps; n++ {
		r := chain(n)
		for i, s := range r.Steps {
			wantSteps(t, r, s.Out, upTo(i+1)...)
			wantReads(t, r, s.Out, "p")
			r.Outs = []string{s.Out}
			wantAll(t, r, "p")
			wantDead(t, r, upTo(n)[i+1:]...)
		}
	}
}

// A step on which a file depends in several ways stands among the indices once, and at its place.
func TestInSeveralWays(t *testing.T) {
	r := ruleOf(t, `rule r { in p, q; out e; a = concat p p; b = sort a; c = copy q; d = count a; e = concat d b a d b a; f = concat e a; }`)
	wantSteps(t, r, "a", 0)
	wantSteps(t, r, "b", 0, 1)
	wantSteps(t, r, "d", 0, 3)
	wantSteps(t, r, "e", 0, 1, 3, 4)
	wantSteps(t, r, "f", 0, 1, 3, 4, 5)
	for _, out := range list("a b d e f") {
		wantReads(t, r, out, "p")
	}
	wantAll(t, r, "p")
	wantDead(t, r, 2, 5)
}

// The most ways that a valid rule has, some hundred million, take no longer than one.
func TestInVeryManyWays(t *testing.T) {
	r := chain(api.MaxSteps)
	for i, s := range r.Steps {
		r.Steps[i].Op, r.Steps[i].Args = api.CConcat, slices.Repeat(s.Args, api.MaxArgs)
	}
	for range 100 {
		wantSteps(t, r, r.Outs[0], upTo(api.MaxSteps)...)
		wantReads(t, r, r.Outs[0], "p")
		wantAll(t, r, "p")
		wantDead(t, r)
	}
}

// Steps between and behind, that read what the output reads, or the output, or that nothing reads, are none of its own.
func TestStepsBeside(t *testing.T) {
	for _, beside := range []struct {
		command, reads string
		least          int
	}{{`copy p`, "p", 0}, {`count q`, "q", 0}, {`concat q p`, "p q", 0}, {`literal "x"`, "", 0}, {`concat`, "", 0},
		{`sort x`, "p", 1}, {`concat p x p`, "p", 1}, {`need y`, "p", 2}, {`concat q y`, "p q", 2}, {`count a`, "p", 3}, {`concat a a q`, "p q", 3}} {
		for at := beside.least; at < 4; at++ {
			steps := ruleOf(t, `rule r { in p; out a; x = copy p; y = sort x; a = concat y x; }`).Steps
			idle := ruleOf(t, `rule r { in p; out idle; idle = `+beside.command+`; }`).Steps
			r := api.Rule{Name: "r", Ins: list("q p"), Outs: list("a"), Steps: slices.Insert(steps, at, idle...)}
			wantSteps(t, r, "a", slices.Delete(upTo(4), at, at+1)...)
			wantReads(t, r, "a", "p")
			wantAll(t, r, "p")
			wantDead(t, r, at)
			wantReads(t, r, "idle", beside.reads)
		}
	}
}

// The indices are the steps' places, in ascending order, in whatever order the steps and the Args stand.
func TestOrderOfIndices(t *testing.T) {
	r := ruleOf(t, `rule r { in p, q; out a; x = copy p; y = copy q; z = literal "l"; o = copy p; a = concat x y z; }`)
	last := r.Steps[4]
	ordersOf(r.Steps[:4], func(steps []api.Step) {
		other := slices.IndexFunc(steps, func(s api.Step) bool { return s.Out == "o" })
		ordersOf(last.Args, func(args []string) {
			s := last
			s.Args = args
			r.Steps = append(slices.Clone(steps), s)
			wantSteps(t, r, "a", slices.Delete(upTo(5), other, other+1)...)
			wantSteps(t, r, "o", other)
			wantDead(t, r, other)
		})
	})
}

// What is read stands in the order of its bytes, not in that of Ins or of Args.
func TestOrderOfReads(t *testing.T) {
	ordersOf(list("a B a/b a.b aa"), func(names []string) {
		r := api.Rule{Name: "r", Ins: names, Outs: list("o u"), Steps: []api.Step{
			{Out: "o", Op: api.CConcat, Args: list("aa a a/b B a.b a")},
			{Out: "u", Op: api.CConcat, Args: list("aa B a")},
		}}
		wantReads(t, r, "o", "B a a.b a/b aa")
		wantReads(t, r, "u", "B a aa")
		wantAll(t, r, "B a a.b a/b aa")
		r.Outs = list("u")
		wantAll(t, r, "B a aa")
	})
}

// An In that several steps have as an Arg, or one several times, stands there once.
func TestInsThatSeveralStepsRead(t *testing.T) {
	r := ruleOf(t, `rule r { in q, p; out a, b; x = concat p q p; y = concat q p x; z = sort p; a = concat z y p q; b = concat p a p; }`)
	for _, out := range list("x y a b") {
		wantReads(t, r, out, "p q")
	}
	wantReads(t, r, "z", "p")
	wantAll(t, r, "p q")
}

// An In that no step reads, or only a step that is another output's, is not read; and an output may read none.
func TestInsThatAreNotRead(t *testing.T) {
	r := ruleOf(t, `rule r { in u, s, q, p; out a, b, c, d; x = concat p s; a = copy x; y = copy q; b = concat y s; c = literal "p"; z = concat c c; d = count z; }`)
	wantReads(t, r, "a", "p s")
	wantReads(t, r, "b", "q s")
	wantReads(t, r, "c", "")
	wantReads(t, r, "d", "")
	wantAll(t, r, "p q s")
	r.Outs = list("c d")
	wantAll(t, r, "")
	wantDead(t, r, 0, 1, 2, 3)
}

// Without Ins nothing is read.
func TestNoIns(t *testing.T) {
	r := ruleOf(t, `rule r { out b, a; a = literal "l"; x = concat a a; b = count a; }`)
	for _, out := range list("a x b") {
		wantReads(t, r, out, "")
	}
	wantAll(t, r, "")
	wantSteps(t, r, "b", 0, 2)
	wantDead(t, r, 1)
}

// Only Ins are told, not the results of steps that the output reads too.
func TestResultsAreNoIns(t *testing.T) {
	r := ruleOf(t, `rule r { in p; out a, b, c; a = copy p; b = concat a p a; c = concat b a; }`)
	for _, out := range list("a b c") {
		wantReads(t, r, out, "p")
	}
	wantAll(t, r, "p")
}

// What each single output reads, put together: different Ins, the same ones, and some of each.
func TestAllOfSeveralOuts(t *testing.T) {
	r := ruleOf(t, `rule r { in s, q, p, u; out a; a = copy q; b = copy p; c = concat s p; d = copy a; e = literal "u"; f = sort u; }`)
	for outs, want := range map[string]string{
		"a": "q", "b": "p", "c": "p s", "d": "q", "e": "", "f": "u",
		"a b": "p q", "b a": "p q", "a d": "q", "b c": "p s", "c b a": "p q s", "a b c d": "p q s", "e a": "q", "a e": "q",
		"f e d": "q u", "f c a": "p q s u", "c f": "p s u",
	} {
		ordersOf(list(outs), func(outs []string) {
			r.Outs = outs
			wantAll(t, r, want)
		})
	}
}

// An In that only a step reads on which no output depends is not read, wherever that step stands.
func TestInsThatDeadStepsRead(t *testing.T) {
	steps := ruleOf(t, `rule r { in p; out a, b; x = copy p; a = sort x; b = count a; }`).Steps
	idle := ruleOf(t, `rule r { in u; out d; d = concat u p u; e = concat d u; }`).Steps
	for at := range 4 {
		r := api.Rule{Name: "r", Ins: list("u p"), Outs: list("b a"), Steps: slices.Insert(slices.Clone(steps), at, idle...)}
		wantAll(t, r, "p")
		wantDead(t, r, at, at+1)
		wantReads(t, r, "d", "p u")
		wantReads(t, r, "e", "p u")
		r.Outs = list("d")
		wantAll(t, r, "p u")
	}
}

// No step is dead, some are, and such as only dead ones read.
func TestDead(t *testing.T) {
	r := ruleOf(t, `rule r { in p, q; out a; a = copy p; b = sort a; c = copy q; d = concat c a; e = count d; f = literal "l"; g = concat b p; }`)
	for outs, want := range map[string][]int{
		"a": {1, 2, 3, 4, 5, 6}, "b": {2, 3, 4, 5, 6}, "c": {0, 1, 3, 4, 5, 6}, "d": {1, 4, 5, 6}, "e": {1, 5, 6}, "f": {0, 1, 2, 3, 4, 6}, "g": {2, 3, 4, 5},
		"a b": {2, 3, 4, 5, 6}, "a c": {1, 3, 4, 5, 6}, "b c": {3, 4, 5, 6}, "d b": {4, 5, 6}, "e b": {5, 6}, "e f": {1, 6}, "e g": {5}, "e f g": nil, "g f e a": nil, "f c g": {3, 4},
	} {
		ordersOf(list(outs), func(outs []string) {
			r.Outs = outs
			wantDead(t, r, want...)
		})
	}
}

// An output that another output reads is none less of an output's own.
func TestOutsThatAreRead(t *testing.T) {
	r := ruleOf(t, `rule r { in p, q; out c, b, a; a = copy p; b = concat a q; c = count b; }`)
	wantSteps(t, r, "a", 0)
	wantSteps(t, r, "b", 0, 1)
	wantSteps(t, r, "c", 0, 1, 2)
	wantReads(t, r, "a", "p")
	wantReads(t, r, "b", "p q")
	wantReads(t, r, "c", "p q")
	wantAll(t, r, "p q")
	wantDead(t, r)
}

// Steps and Reads hang on the steps alone, not on what the Outs are, nor on the rule's name and what it comes after.
func TestWhatDoesNotMatter(t *testing.T) {
	r := example(t)
	for _, outs := range []string{"a", "b", "dead", "last worse", "x y a b"} {
		for _, name := range list("r a x p none") {
			r.Name, r.Outs, r.After = name, list(outs), list("s a p x u")
			wantSteps(t, r, "a", 0, 3)
			wantReads(t, r, "a", "p z")
			wantSteps(t, r, "worse", 2, 4)
			wantReads(t, r, "worse", "q")
			wantSteps(t, r, "none")
		}
	}
	wantAll(t, r, "p z")
	wantDead(t, r, 2, 4, 6)
}

// Names that are nearly alike are names of different files.
func TestNamesAreNotAlike(t *testing.T) {
	long := strings.Repeat("n", 39)
	names := append(list("a A a/a a.a a-a a_a aa a/aa"), long, long+"m", long+"n")
	for i, p := range names {
		for j, q := range names {
			out := names[(max(i, j)+1)%len(names)]
			if p == q || out == p || out == q {
				continue
			}
			r := api.Rule{Name: "r", Ins: []string{q}, Outs: []string{out},
				Steps: []api.Step{{Out: p, Op: api.CLiteral, Lits: []string{"l"}}, {Out: out, Op: api.CCopy, Args: []string{q}}}}
			wantSteps(t, r, out, 1)
			wantAll(t, r, q)
			wantDead(t, r, 0)
			r.Steps[1].Args = []string{p}
			wantSteps(t, r, out, 0, 1)
			wantAll(t, r, "")
			wantDead(t, r)
		}
	}
}

// A rule of all that a rule may have: eight Ins, four Outs and twelve steps.
func TestGreatestRule(t *testing.T) {
	r := ruleOf(t, `rule r { in i7, i6, i5, i4, i3, i2, i1, i0; out d, c, b, a;
  s0 = concat i0 i1 i2 i3 i4 i5; s1 = copy i6; s2 = concat s0 s0 s0 s0 s0 s0; s3 = concat s1 i1 s1; s4 = copy i7; s5 = concat s4 s3;
  a = concat s2 s1; b = concat s3 i5; s8 = count a; c = literal "c"; d = concat c b; s11 = concat d c b a; }`)
	wantSteps(t, r, "a", 0, 1, 2, 6)
	wantSteps(t, r, "b", 1, 3, 7)
	wantSteps(t, r, "c", 9)
	wantSteps(t, r, "d", 1, 3, 7, 9, 10)
	wantSteps(t, r, "s11", 0, 1, 2, 3, 6, 7, 9, 10, 11)
	wantReads(t, r, "a", "i0 i1 i2 i3 i4 i5 i6")
	wantReads(t, r, "b", "i1 i5 i6")
	wantReads(t, r, "c", "")
	wantReads(t, r, "d", "i1 i5 i6")
	wantReads(t, r, "s5", "i1 i6 i7")
	wantAll(t, r, "i0 i1 i2 i3 i4 i5 i6")
	wantDead(t, r, 4, 5, 8, 11)
}

// anyOp returns a step without its Out and its Args, and how many Args it is to have.
func anyOp(rnd *rand.Rand) (api.Step, int) {
	lits := []string{"", "a", "s0", "i0", "\n", "ab"}
	lit := func(from int) string { return lits[from+rnd.IntN(len(lits)-from)] }
	switch op := 1 + rnd.IntN(9); op {
	case api.CConcat:
		return api.Step{Op: op}, rnd.IntN(7)
	case api.CLiteral:
		return api.Step{Op: op, Lits: []string{lit(0)}}, 0
	case api.CSelect:
		return api.Step{Op: op, Lits: []string{lit(0)}}, 1
	case api.CReplace:
		return api.Step{Op: op, Lits: []string{lit(1), lit(0)}}, 1
	case api.CPrefix:
		return api.Step{Op: op, N: rnd.IntN(12)}, 1
	default:
		return api.Step{Op: op}, 1
	}
}

// anyRule returns a valid rule.
func anyRule(rnd *rand.Rand) api.Rule {
	names := list("s0 s1 s2 s3 s4 s5 s6 s7 s8 s9 s10 s11 i0 i1 i2 i3 i4 i5 i6 i7")
	rnd.Shuffle(len(names), func(i, j int) { names[i], names[j] = names[j], names[i] })
	ins := rnd.IntN(9)
	r := api.Rule{Name: "r", Ins: slices.Clone(names[:ins])}
	known := slices.Clone(r.Ins)
	var made []string
	for _, out := range names[ins : ins+1+rnd.IntN(12)] {
		s, reads := anyOp(rnd)
		if len(known) == 0 && reads > 0 {
			s, reads = api.Step{Op: api.CConcat}, 0
		}
		for range reads {
			s.Args = append(s.Args, known[rnd.IntN(len(known))])
		}
		s.Out = out
		known, made = append(known, s.Out), append(made, s.Out)
		r.Steps = append(r.Steps, s)
	}
	rnd.Shuffle(len(made), func(i, j int) { made[i], made[j] = made[j], made[i] })
	r.Outs = made[:1+rnd.IntN(min(4, len(made)))]
	return r
}

// depends reports whether file depends on the step at i, as the chapter says it.
func depends(r api.Rule, file string, i int) bool {
	at := slices.IndexFunc(r.Steps, func(s api.Step) bool { return s.Out == file })
	return at == i || at > i && slices.ContainsFunc(r.Steps[at].Args, func(arg string) bool { return depends(r, arg, i) })
}

// stepsOf returns the indices of the steps on which one of outs depends.
func stepsOf(r api.Rule, outs ...string) []int {
	var at []int
	for i := range r.Steps {
		if slices.ContainsFunc(outs, func(out string) bool { return depends(r, out, i) }) {
			at = append(at, i)
		}
	}
	return at
}

// readsOf returns the words of what the steps on which one of outs depends read.
func readsOf(r api.Rule, outs ...string) string {
	var ins []string
	for _, in := range r.Ins {
		if slices.ContainsFunc(stepsOf(r, outs...), func(i int) bool { return slices.Contains(r.Steps[i].Args, in) }) {
			ins = append(ins, in)
		}
	}
	return strings.Join(slices.Sorted(slices.Values(ins)), " ")
}

// Made-up rules, against the chapter's words taken one step at a time.
func TestAnyRule(t *testing.T) {
	dead, unread := 0, 0
	for seed := range uint64(3000) {
		r := anyRule(rand.New(rand.NewPCG(9, seed)))
		for _, s := range r.Steps {
			wantSteps(t, r, s.Out, stepsOf(r, s.Out)...)
			wantReads(t, r, s.Out, readsOf(r, s.Out))
		}
		for _, in := range r.Ins {
			wantSteps(t, r, in)
			wantReads(t, r, in, "")
		}
		wantAll(t, r, readsOf(r, r.Outs...))
		live := stepsOf(r, r.Outs...)
		wantDead(t, r, slices.DeleteFunc(upTo(len(r.Steps)), func(i int) bool { return slices.Contains(live, i) })...)
		dead, unread = dead+len(slice.Dead(r)), unread+len(r.Ins)-len(slice.All(r))
	}
	if dead < 1000 || unread < 1000 {
		t.Errorf("the made-up rules are lopsided: %d steps are dead, %d Ins are not read", dead, unread)
	}
}

// Steps of all Outs together with Dead are all the steps, each once; and Reads of all Outs together are All.
func TestTogether(t *testing.T) {
	for seed := range uint64(3000) {
		r := anyRule(rand.New(rand.NewPCG(10, seed)))
		var live []int
		var read []string
		for _, out := range r.Outs {
			live, read = append(live, slice.Steps(r, out)...), append(read, slice.Reads(r, out)...)
		}
		slices.Sort(live)
		all := append(slices.Compact(live), slice.Dead(r)...)
		slices.Sort(all)
		wantList(t, r, "Steps of all Outs with Dead", all, upTo(len(r.Steps)))
		slices.Sort(read)
		wantAll(t, r, strings.Join(slices.Compact(read), " "))
	}
}

// Executed with its Steps alone, on its Reads alone, an output is what it is in the whole rule.
func TestEnoughToMakeIt(t *testing.T) {
	for seed := range uint64(2000) {
		rnd := rand.New(rand.NewPCG(11, seed))
		r := anyRule(rnd)
		vals := make([]api.Val, len(r.Ins))
		for i := range vals {
			if rnd.IntN(8) > 0 {
				vals[i] = api.Val{Ok: true, B: strings.Repeat("a\nb", rnd.IntN(4))}
			}
		}
		for at, out := range r.Outs {
			part := api.Rule{Name: "r", Ins: slice.Reads(r, out), Outs: []string{out}}
			for _, i := range slice.Steps(r, out) {
				part.Steps = append(part.Steps, r.Steps[i])
			}
			wantList(t, r, fmt.Sprintf("what %q is by its Steps and Reads", out), run.Named(part, r.Ins, vals), run.Of(r, vals...)[at:at+1])
		}
	}
}

// room returns a copy of s with spare room, in which more stands.
func room[E any](s []E, more E) []E {
	all := append(make([]E, 0, len(s)+3), s...)
	return append(all, more, more, more)[:len(s)]
}

// roomy returns a copy of r, whose lists all have spare room.
func roomy(r api.Rule) api.Rule {
	r.Ins, r.Outs, r.After = room(r.Ins, "spare"), room(r.Outs, "spare"), room(r.After, "spare")
	r.Steps = room(r.Steps, api.Step{Out: "spare"})
	for i, s := range r.Steps {
		r.Steps[i].Args, r.Steps[i].Lits = room(s.Args, "spare"), room(s.Lits, "spare")
	}
	return r
}

// spread returns a deep copy of r, with what stands in the spare room of its lists.
func spread(r api.Rule) api.Rule {
	all := func(s []string) []string { return slices.Clone(s[:cap(s)]) }
	r.Ins, r.Outs, r.After = all(r.Ins), all(r.Outs), all(r.After)
	r.Steps = slices.Clone(r.Steps[:cap(r.Steps)])
	for i, s := range r.Steps {
		r.Steps[i].Args, r.Steps[i].Lits = all(s.Args), all(s.Lits)
	}
	return r
}

// Neither the lists of a rule nor their spare room change.
func TestWhatIsPassedInStays(t *testing.T) {
	r := roomy(ruleOf(t, `rule r { in z, p, q, u; out b, a; after s, o;
  x = concat z p; y = replace "v" "w" x; dead = copy q; a = count x; b = concat y a p z; last = copy b; }`))
	was := spread(r)
	for _, out := range list("a b x y dead last z p q u none spare") {
		slice.Steps(r, out)
		slice.Reads(r, out)
		slice.All(r)
		slice.Dead(r)
		if !reflect.DeepEqual(spread(r), was) {
			t.Fatalf("P9.1: a call changed its rule to %+v", spread(r))
		}
	}
	wantSteps(t, r, "spare")
	wantReads(t, r, "spare", "")
}

// What stands in the spare room of a rule's lists is no part of it, also where it is a name of the rule's.
func TestSpareRoomIsNotRead(t *testing.T) {
	r := roomy(ruleOf(t, `rule r { in p, q; out a; x = copy q; y = copy p; a = sort y; z = copy x; }`))
	for i, s := range r.Steps {
		r.Steps[i].Args = room(s.Args, "q")
	}
	for range 2 {
		wantSteps(t, r, "a", 1, 2)
		wantReads(t, r, "a", "p")
		wantAll(t, r, "p")
		wantDead(t, r, 0, 3)
		for i, s := range r.Steps[1:] {
			r.Steps[i+1].Args = room(s.Args, "x")
		}
		r.Ins, r.Outs, r.Steps = room(r.Ins, "y"), room(r.Outs, "z"), room(r.Steps, api.Step{Out: "a", Op: api.CCopy, Args: list("q")})
	}
}

// wantOwn fails if an answer of call shares memory with another one or with r, whose copy from before is was.
func wantOwn[E comparable](t *testing.T, r, was api.Rule, call func() []E, other E) {
	t.Helper()
	answers := [][]E{call(), call(), call()}
	want := slices.Clone(answers[0])
	for i, answer := range answers {
		wantList(t, r, "an answer beside one that is changed", answer, want)
		answer = answer[:cap(answer)]
		for j := range answer {
			answer[j] = other
		}
		// Ahead of the next call, which would make a shared one good again.
		for _, later := range answers[i+1:] {
			wantList(t, r, "an answer beside one that is changed", later, want)
		}
		wantList(t, r, "an answer after an earlier one is changed", call(), want)
		if !reflect.DeepEqual(spread(r), was) {
			t.Fatalf("P9.1: an answer shares memory with its rule, which is now %+v", spread(r))
		}
	}
}

// What is returned is the caller's own, its spare room among that.
func TestAnswersAreNew(t *testing.T) {
	for _, text := range []string{
		`rule r { in p, q, s; out a, b; a = concat p q s; b = copy a; }`,
		`rule r { in p, z; out b; x = concat p z; y = copy x; b = sort x; }`,
		`rule r { in p; out a; a = copy p; }`,
		`rule r { out a; a = literal "l"; x = concat; y = concat; z = concat; }`,
	} {
		r := roomy(ruleOf(t, text))
		was := spread(r)
		for _, out := range append(list("b a x p none"), r.Outs...) {
			wantOwn(t, r, was, func() []int { return slice.Steps(r, out) }, -1)
			wantOwn(t, r, was, func() []string { return slice.Reads(r, out) }, "changed")
		}
		wantOwn(t, r, was, func() []string { return slice.All(r) }, "changed")
		wantOwn(t, r, was, func() []int { return slice.Dead(r) }, -1)
	}
}

// No answer hangs on an earlier call, nor on what became of a rule since.
func TestNothingIsKept(t *testing.T) {
	r, other := example(t), ruleOf(t, `rule r { in z, p, q, u; out b, a; x = copy q; b = copy u; a = concat b b; y = copy x; }`)
	for range 3 {
		wantSteps(t, r, "a", 0, 3)
		wantReads(t, r, "a", "p z")
		wantAll(t, r, "p z")
		wantDead(t, r, 2, 4, 6)
		wantSteps(t, other, "a", 1, 2)
		wantReads(t, other, "a", "u")
		wantAll(t, other, "u")
		wantDead(t, other, 0, 3)
	}
	other.Steps[2].Args[0] = "x"
	wantSteps(t, other, "a", 0, 1, 2)
	wantReads(t, other, "a", "q u")
	wantAll(t, other, "q u")
	wantDead(t, other, 3)
}

// Nil and empty lists are the same.
func TestNilAndEmpty(t *testing.T) {
	for _, none := range [][]string{nil, {}} {
		r := api.Rule{Name: "r", Ins: none, Outs: list("a"), After: none, Steps: []api.Step{{Out: "a", Op: api.CConcat, Args: none, Lits: none}, {Out: "b", Op: api.CConcat, Args: none, Lits: none}}}
		wantSteps(t, r, "a", 0)
		wantReads(t, r, "a", "")
		wantAll(t, r, "")
		wantDead(t, r, 1)
		r.Outs = none
		wantAll(t, r, "")
		wantDead(t, r, 0, 1)
		for _, steps := range [][]api.Step{nil, {}} {
			r = api.Rule{Name: "r", Ins: none, Outs: none, Steps: steps}
			wantSteps(t, r, "a")
			wantReads(t, r, "a", "")
			wantAll(t, r, "")
			wantDead(t, r)
		}
	}
}

// wrongRules are rules that are not valid, each in a way of its own.
func wrongRules() []api.Rule {
	a := api.Step{Out: "a", Op: api.CCopy, Args: list("p")}
	ring := chain(1 << 12)
	ring.Steps[0].Args = ring.Outs
	wide := chain(1 << 12)
	for i := range wide.Steps {
		wide.Steps[i].Args = slices.Repeat(wide.Steps[i].Args, 64)
	}
	back := chain(1 << 12)
	slices.Reverse(back.Steps)
	return []api.Rule{
		{},
		{Ins: list("p"), Steps: []api.Step{a}},
		{Ins: list("p"), Outs: list("a")},
		{Ins: list("p"), Outs: list("p"), Steps: []api.Step{a}},
		{Ins: list("p"), Outs: list("a b"), Steps: []api.Step{a}},
		{Ins: list("p"), Outs: list("a a"), Steps: []api.Step{a, a}},
		{Ins: list("p p"), Outs: list("a"), Steps: []api.Step{a}},
		{Ins: list("p"), Outs: list("a"), Steps: []api.Step{{Out: "a", Op: api.CSort, Args: list("a")}}},
		{Ins: list("p"), Outs: list("p"), Steps: []api.Step{{Out: "p", Op: api.CConcat, Args: list("p p p p p p")}}},
		{Ins: list("p"), Outs: list("a b"), Steps: []api.Step{{Out: "a", Op: api.CSort, Args: list("b")}, {Out: "b", Op: api.CSort, Args: list("a")}}},
		{Ins: list("p"), Outs: list("a"), Steps: []api.Step{{Out: "a", Op: api.CCopy, Args: list("none")}}},
		{Ins: list("p"), Outs: list("a"), Steps: []api.Step{{Out: "a", Op: math.MinInt, N: math.MaxInt, Args: list("p p")}}},
		{Ins: []string{""}, Outs: []string{""}, Steps: []api.Step{{Op: api.CCopy, Args: []string{""}}}},
		{Ins: []string{"\xff"}, Outs: []string{"in", "\n"}, Steps: []api.Step{{Out: "in", Op: api.CCopy, Args: []string{"\xff"}}}},
		{Ins: list("p"), Outs: list("a"), Steps: slices.Repeat([]api.Step{a}, 1<<12)},
		{Ins: make([]string, 1<<16), Outs: make([]string, 1<<16), Steps: []api.Step{{Op: api.CConcat, Args: make([]string, 1<<16)}}},
		ring, wide, back,
	}
}

// Rules that are not valid are no reason to panic or to go on for ever; the indices are of steps, and the names are of Ins.
func TestWrongRules(t *testing.T) {
	for i, r := range wrongRules() {
		wantDeadBeside(t, i, r)
		for _, out := range append(list("a b p none in s0 s4095"), "", "\n", "\xff") {
			at, ins := slice.Steps(r, out), slice.Reads(r, out)
			if len(at) > 0 && (at[0] < 0 || at[len(at)-1] >= len(r.Steps) || len(slices.Compact(slices.Clone(at))) < len(at)) || !slices.IsSorted(at) {
				t.Errorf("P9.1: rule %d that is not valid: Steps for %q = %.300s", i, out, fmt.Sprint(at))
			}
			if slices.ContainsFunc(ins, func(in string) bool { return !slices.Contains(r.Ins, in) }) || !slices.IsSorted(ins) {
				t.Errorf("P9.1: rule %d that is not valid: Reads for %q = %.300q", i, out, ins)
			}
		}
	}
}

// wantDeadBeside fails unless Dead(r) is what Steps of no Out has, and All(r) tells only Ins.
func wantDeadBeside(t *testing.T, i int, r api.Rule) {
	t.Helper()
	live := make([]bool, len(r.Steps))
	for _, out := range slices.Compact(slices.Clone(r.Outs)) {
		for _, at := range slice.Steps(r, out) {
			live[at] = true
		}
	}
	dead := slices.DeleteFunc(upTo(len(r.Steps)), func(at int) bool { return live[at] })
	if got := slice.Dead(r); !slices.Equal(got, dead) {
		t.Errorf("P9.1: rule %d that is not valid: Dead = %.300s, not %.300s", i, fmt.Sprint(got), fmt.Sprint(dead))
	}
	if ins := slice.All(r); !slices.IsSorted(ins) || len(ins) > len(r.Ins) {
		t.Errorf("P9.1: rule %d that is not valid: All = %.300q", i, ins)
	}
}

// A rule far longer than a valid one takes no longer than its length asks for.
func TestLongRules(t *testing.T) {
	const n = 1 << 17
	r := chain(n)
	for i := range n {
		r.Ins = append(r.Ins, fmt.Sprintf("i%d", n-i))
		if i > 0 {
			r.Steps[i].Args = append(r.Steps[i].Args, "p", r.Steps[i/2].Out, fmt.Sprintf("i%d", i))
		}
	}
	for at, out := range r.Steps[n-8 : n] {
		if got := slice.Steps(r, out.Out); len(got) != n-7+at {
			t.Errorf("P9.1: a file behind %d steps: %d Steps", n-7+at, len(got))
		}
	}
	if got := slice.Reads(r, r.Outs[0]); len(got) != n || !slices.IsSorted(got) {
		t.Errorf("P9.1: a file of a long rule reads %d Ins, not %d in their order", len(got), n)
	}
	if got := slice.All(r); len(got) != n {
		t.Errorf("P9.1: All of a long rule: %d Ins, not %d", len(got), n)
	}
	if got := slice.Dead(r); len(got) != 0 {
		t.Errorf("P9.1: Dead of a long rule: %d steps, not none", len(got))
	}
}
