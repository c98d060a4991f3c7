package run_test

import (
	"fmt"
	"math"
	"math/rand/v2"
	"reflect"
	"slices"
	"strings"
	"testing"

	"shipwright/api"
	"shipwright/parse"
	"shipwright/run"
	"shipwright/step"
)

// list returns the words of s.
func list(s string) []string { return strings.Fields(s) }

// ruleOf returns the one rule of a rule file.
func ruleOf(t *testing.T, text string) api.Rule {
	t.Helper()
	rs, err := parse.File(text)
	if err.Code != api.OK || len(rs) != 1 {
		t.Fatalf("parse.File(%q) = %d rules, %+v", text, len(rs), err)
	}
	return rs[0]
}

// failed is a value that is not Ok.
func failed() api.Val { return api.Val{} }

// lost is a value that is not Ok either, whatever stands in it.
func lost() api.Val { return api.Val{B: "lost\n"} }

// ok returns the value b.
func ok(b string) api.Val { return api.Val{Ok: true, B: b} }

// oks returns the values bs.
func oks(bs ...string) []api.Val {
	vs := make([]api.Val, 0, len(bs))
	for _, b := range bs {
		vs = append(vs, ok(b))
	}
	return vs
}

// vals returns the values vs.
func vals(vs ...api.Val) []api.Val { return vs }

// told tells values in a test's complaint.
func told(vs []api.Val) string {
	words := make([]string, 0, len(vs))
	for _, v := range vs {
		word := fmt.Sprintf("%.300q of %d bytes", v.B, len(v.B))
		if !v.Ok {
			word = "not Ok: " + word
		}
		words = append(words, word)
	}
	return "[" + strings.Join(words, ", ") + "]"
}

// wantVals fails unless a call answered want.
func wantVals(t *testing.T, call string, got, want []api.Val) {
	t.Helper()
	if !slices.Equal(got, want) {
		t.Errorf("P8.1: %.600s = %s, not %s", call, told(got), told(want))
	}
}

// wantOf fails unless Of(r, ins...) is want, and Named tells the same of the names of Ins.
func wantOf(t *testing.T, r api.Rule, ins []api.Val, want ...api.Val) {
	t.Helper()
	wantVals(t, fmt.Sprintf("Of(%+v, %s)", r, told(ins)), run.Of(r, ins...), want)
	wantNamed(t, r, r.Ins, ins, want...)
}

// wantNamed fails unless Named(r, names, ins) is want.
func wantNamed(t *testing.T, r api.Rule, names []string, ins []api.Val, want ...api.Val) {
	t.Helper()
	wantVals(t, fmt.Sprintf("Named(%+v, %q, %s)", r, names, told(ins)), run.Named(r, names, ins), want)
}

// wantTexts fails unless all values of Of(r, ins...) are Ok, with the contents want.
func wantTexts(t *testing.T, r api.Rule, ins []api.Val, want ...string) {
	t.Helper()
	wantOf(t, r, ins, oks(want...)...)
}

// ordersOf calls f with l in every order.
func ordersOf[E any](l []E, f func([]E)) {
	var place func(at int)
	place = func(at int) {
		if at == len(l) {
			f(slices.Clone(l))
			return
		}
		for i := at; i < len(l); i++ {
			l[at], l[i] = l[i], l[at]
			place(at + 1)
			l[at], l[i] = l[i], l[at]
		}
	}
	l = slices.Clone(l)
	place(0)
}

// example is the rule of the chapter's examples.
func example(t *testing.T) api.Rule {
	t.Helper()
	return ruleOf(t, `rule r { in p, q; out b, a, c; x = concat p p; a = sort x; y = need q; b = concat y a; c = count p; }`)
}

func TestOfExamples(t *testing.T) {
	r := example(t)
	wantTexts(t, r, oks("b\na\n", "Q"), "Qa\na\nb\nb\n", "a\na\nb\nb\n", "2\n")
	wantOf(t, r, oks("b", ""), failed(), ok("bb\n"), ok("1\n"))
}

func TestNamedExample(t *testing.T) {
	r := example(t)
	wantNamed(t, r, list("p"), oks("x"), failed(), ok("xx\n"), ok("1\n"))
}

// What each command makes, with its strings and its number, and not by its own name alone.
func TestOfEachCommand(t *testing.T) {
	const in = "ba\nc\n\na"
	for command, want := range map[string]string{
		`copy p`:              in,
		`need p`:              in,
		`sort p`:              "\na\nba\nc\n",
		`count p`:             "4\n",
		`concat`:              "",
		`concat p`:            in,
		`concat q p q`:        "Q" + in + "Q",
		`literal "l\n"`:       "l\n",
		`literal "p"`:         "p",
		`select "a" p`:        "ba\na\n",
		`select "" p`:         "ba\nc\n\na\n",
		`replace "a" "bb" p`:  "bbb\nc\n\nbb",
		`replace "\n" "" p`:   "baca",
		`prefix 0 p`:          "",
		`prefix 3 p`:          "ba\n",
		`prefix 2000 p`:       in,
		`concat p p p p p p`:  strings.Repeat(in, 6),
		`concat q q q p q q`:  "QQQ" + in + "QQ",
		`replace "Q" "\\0" q`: "\\0",
	} {
		r := ruleOf(t, `rule r { in p, q; out a; a = `+command+`; }`)
		wantTexts(t, r, oks(in, "Q"), want)
	}
}

// The values stand in the order of Outs, whatever the order of the steps that make them.
func TestOrderOfOuts(t *testing.T) {
	r := ruleOf(t, `rule r { in p; out a, b, c, d; a = copy p; b = literal "L"; c = count p; d = prefix 1 p; }`)
	made := map[string]string{"a": "one\ntwo", "b": "L", "c": "2\n", "d": "o"}
	ordersOf(r.Outs, func(outs []string) {
		want := make([]string, 0, len(outs))
		for _, out := range outs {
			want = append(want, made[out])
		}
		ordersOf(r.Steps, func(steps []api.Step) {
			wantTexts(t, api.Rule{Name: "r", Ins: r.Ins, Outs: outs, Steps: steps}, oks("one\ntwo"), want...)
		})
	})
}

// Only the Outs are told, also where steps make more, and however many there are.
func TestSomeOfWhatIsMade(t *testing.T) {
	r := ruleOf(t, `rule r { in p; out z; m = copy p; a = count p; z = concat m a; b = literal "b"; }`)
	made := map[string]string{"m": "x", "a": "1\n", "z": "x1\n", "b": "b"}
	for _, outs := range []string{"z", "a", "m", "b", "b m", "m b", "a z", "z b a", "b a m z"} {
		r.Outs = list(outs)
		want := make([]string, 0, len(r.Outs))
		for _, out := range r.Outs {
			want = append(want, made[out])
		}
		wantTexts(t, r, oks("x"), want...)
	}
}

func TestInsByTheirPlaces(t *testing.T) {
	ordersOf(list("p q s"), func(names []string) {
		r := ruleOf(t, `rule r { in p, q, s; out a, b; a = concat p q s; b = copy q; }`)
		r.Ins = names
		of := map[string]string{names[0]: "0", names[1]: "1", names[2]: "2"}
		wantTexts(t, r, oks("0", "1", "2"), of["p"]+of["q"]+of["s"], of["q"])
	})
}

// Results of earlier steps, near and far ones, several at once, and one several times.
func TestReadingResults(t *testing.T) {
	wantTexts(t, ruleOf(t, `rule r { in p; out a; x = copy p; a = copy x; }`), oks("v"), "v")
	wantTexts(t, ruleOf(t, `rule r { in p; out a; x = concat p p; y = concat x x; a = concat y y; }`), oks("v"), "vvvvvvvv")
	wantTexts(t, ruleOf(t, `rule r { in p, q; out a; x = concat p q; y = concat q p; z = count p; a = concat z x p y x z; }`),
		oks("v", "w"), "1\nvwvwvvw1\n")
	wantTexts(t, ruleOf(t, `rule r { in p, q; out a, b; x = concat p q; a = concat x q; b = concat a x p; }`),
		oks("v", "w"), "vww", "vwwvwv")
	wantTexts(t, ruleOf(t, `rule r { in p; out a; x = copy p; m = literal "m"; n = literal "n"; o = concat m n; a = concat x o x; }`),
		oks("v"), "vmnv")
	wantTexts(t, ruleOf(t, `rule r { in p; out a, b; a = concat p p p p p p; b = concat a p a p a p; }`),
		oks("v"), "vvvvvv", strings.Repeat("v", 21))
}

// An output that another output reads is told and read alike.
func TestOutsThatAreRead(t *testing.T) {
	for outs, want := range map[string][]string{
		"a b c": {"v", "vv", "vvvvv"}, "c b a": {"vvvvv", "vv", "v"}, "b": {"vv"}, "c": {"vvvvv"}, "c a": {"vvvvv", "v"},
	} {
		r := ruleOf(t, `rule r { in p; out a; a = copy p; b = concat a a; c = concat b a b; }`)
		r.Outs = list(outs)
		wantTexts(t, r, oks("v"), want...)
	}
}

func TestReadingNothing(t *testing.T) {
	for _, ins := range []string{"", "in p; "} {
		r := ruleOf(t, `rule r { `+ins+`out a, b, c, d; a = literal "l"; b = concat; c = literal ""; x = concat a a; d = count x; }`)
		for _, v := range vals(ok("v"), ok(""), failed(), lost()) {
			wantTexts(t, r, slices.Repeat(vals(v), len(r.Ins)), "l", "", "", "1\n")
		}
	}
}

// The name of a rule and what it comes after are no matter of its files'.
func TestNameAndAfter(t *testing.T) {
	for _, head := range []string{`rule p { in p; out a;`, `rule a { in p; out a;`, `rule x { in p; out a; after b, p, a;`, `rule r/s { in p; out a; after x;`} {
		wantTexts(t, ruleOf(t, head+` x = concat p p; a = copy x; }`), oks("v"), "vv")
	}
}

// Names that are nearly alike are names of different files.
func TestNamesAreNotAlike(t *testing.T) {
	long := strings.Repeat("n", 39)
	names := append(list("a A a/a a.a a-a a_a aa a/aa"), long, long+"m", long+"n")
	for i, p := range names {
		for j, q := range names {
			out := names[(max(i, j)+1)%len(names)]
			if p == q || out == p || out == q {
				continue
			}
			r := api.Rule{Name: "r", Ins: []string{p, q}, Outs: []string{out},
				Steps: []api.Step{{Out: out, Op: api.CConcat, Args: []string{q, p, p}}}}
			wantTexts(t, r, oks("P", "Q"), "QPP")
		}
	}
}

// A failed step is felt by what depends on it, directly and through others, and by nothing beside it.
func TestFailedSteps(t *testing.T) {
	r := ruleOf(t, `rule r { in p, q; out near, far, farther, beside;
  near = need q; x = concat p near; far = count x; farther = concat far p; beside = concat p p; }`)
	ordersOf(list("near far farther beside"), func(outs []string) {
		r.Outs = outs
		sound := map[string]api.Val{"near": ok("w"), "far": ok("1\n"), "farther": ok("1\nv"), "beside": ok("vv")}
		fails := map[string]api.Val{"beside": ok("vv")}
		for q, made := range map[api.Val]map[string]api.Val{ok("w"): sound, ok(""): fails, failed(): fails, lost(): fails} {
			want := make([]api.Val, 0, len(outs))
			for _, out := range outs {
				want = append(want, made[out])
			}
			wantOf(t, r, vals(ok("v"), q), want...)
		}
	})
}

// One failed argument is enough, wherever it stands, and nothing makes it good again.
func TestFailureAmongArgs(t *testing.T) {
	for at := range 6 {
		args := slices.Repeat(list("p"), 6)
		args[at] = "gone"
		for _, reader := range []string{"concat " + strings.Join(args, " "), "copy x", "need x", "sort x", "count x", "concat x",
			`select "v" x`, `replace "v" "w" x`, `prefix 0 x`} {
			r := ruleOf(t, `rule r { in p, q; out a, b; gone = need q; x = concat `+strings.Join(args, " ")+`; a = `+reader+`; b = concat p p; }`)
			wantOf(t, r, oks("v", ""), failed(), ok("vv"))
		}
	}
}

// The order of steps that do not read one another changes nothing, also where one of them fails.
func TestFailureInAnyOrder(t *testing.T) {
	r := ruleOf(t, `rule r { in p, q; out a, b, c; a = need q; b = copy p; c = literal "l"; x = copy q; }`)
	ordersOf(r.Steps, func(steps []api.Step) {
		r.Steps = steps
		wantOf(t, r, oks("v", ""), failed(), ok("v"), ok("l"))
		wantOf(t, r, vals(ok("v"), failed()), failed(), ok("v"), ok("l"))
		wantOf(t, r, vals(failed(), ok("w")), ok("w"), failed(), ok("l"))
		wantOf(t, r, vals(lost(), lost()), failed(), failed(), ok("l"))
	})
}

// A step that nobody reads may fail, ahead of the others, among them and behind them.
func TestFailureThatNobodyReads(t *testing.T) {
	steps := ruleOf(t, `rule r { in p; out a; x = concat p p; a = copy x; }`).Steps
	for _, dead := range []string{`need none`, `copy q`, `concat huge p`, `replace "v" "w" q`} {
		idle := ruleOf(t, `rule r { in q; out d; d = `+dead+`; e = concat d d; }`).Steps
		for at := range 3 {
			r := api.Rule{Name: "r", Ins: list("p q none huge"), Outs: list("a"), Steps: slices.Insert(slices.Clone(steps), at, idle...)}
			wantOf(t, r, vals(ok("v"), failed(), ok(""), ok(strings.Repeat("h", 2000))), ok("vv"))
		}
	}
}

// Every set of Ins that are not Ok: an output is Ok if those that it reads are.
func TestInsThatAreNotOk(t *testing.T) {
	r := ruleOf(t, `rule r { in p, q, s, u; out a, b, c, d; x = concat p q; a = concat x s; b = sort q; c = concat x p; d = count u; }`)
	texts, made := list("P Q S U"), []string{"PQS", "Q\n", "PQP", "1\n"}
	reads := []uint{0b0111, 0b0010, 0b0011, 0b1000}
	for set := range uint(16) {
		for _, bad := range vals(failed(), lost()) {
			ins, want := oks(texts...), oks(made...)
			for i := range ins {
				if set>>i&1 == 1 {
					ins[i] = bad
				}
				if set&reads[i] != 0 {
					want[i] = failed()
				}
			}
			wantOf(t, r, ins, want...)
		}
	}
}

// reader returns a rule of n Ins that joins them, as far as one concat goes.
func reader(n int) api.Rule {
	ins := make([]string, n)
	for i := range ins {
		ins[i] = fmt.Sprintf("p%d", i)
	}
	return api.Rule{Name: "r", Ins: ins, Outs: list("l a"), Steps: []api.Step{
		{Out: "a", Op: api.CConcat, Args: ins[:min(n, 6)]},
		{Out: "l", Op: api.CLiteral, Lits: list("L")},
	}}
}

// As many ins as Ins have to be there, also those that nobody reads.
func TestFewerAndMoreIns(t *testing.T) {
	for n := range 9 {
		r := reader(n)
		for m := range 12 {
			ins := make([]api.Val, 0, m)
			joined := ""
			for i := range m {
				ins = append(ins, ok(fmt.Sprint(i)))
				if i < 6 {
					joined += fmt.Sprint(i)
				}
			}
			got := run.Of(r, ins...)
			if n == m {
				wantVals(t, fmt.Sprintf("Of with %d ins", m), got, oks("L", joined))
			} else if got != nil {
				t.Errorf("P8.1: Of with %d ins for %d Ins = %s, not nil", m, n, told(got))
			}
			if vs := run.Of(r, make([]api.Val, m)...); n != m && vs != nil {
				t.Errorf("P8.1: Of with %d failed ins for %d Ins = %s, not nil", m, n, told(vs))
			}
		}
		if vs := run.Of(r, make([]api.Val, 1<<20)...); vs != nil {
			t.Errorf("P8.1: Of with a million ins for %d Ins = %d values, not nil", n, len(vs))
		}
	}
}

func TestNoIns(t *testing.T) {
	r := ruleOf(t, `rule r { out a; a = literal "l"; }`)
	wantVals(t, "Of without ins", run.Of(r), oks("l"))
	wantTexts(t, r, nil, "l")
	wantTexts(t, r, []api.Val{}, "l")
	r.Ins = []string{}
	wantTexts(t, r, nil, "l")
	if vs := run.Of(r, ok("")); vs != nil {
		t.Errorf("P8.1: Of with one in for no Ins = %s, not nil", told(vs))
	}
	wantNamed(t, r, list("p"), oks("v"), ok("l"))
	if vs := run.Of(ruleOf(t, `rule r { in p; out a; a = literal "l"; }`)); vs != nil {
		t.Errorf("P8.1: Of without ins for one that is not read = %s, not nil", told(vs))
	}
}

// The names may stand in any order.
func TestNamedInAnyOrder(t *testing.T) {
	r := ruleOf(t, `rule r { in p, q, s, u; out a, b; a = concat p q s u; b = copy u; }`)
	of := map[string]string{"p": "P", "q": "Q", "s": "S", "u": "U", "v": "V"}
	ordersOf(list("p q s u v"), func(names []string) {
		ins := make([]api.Val, 0, len(names))
		for _, name := range names {
			ins = append(ins, ok(of[name]))
		}
		wantNamed(t, r, names, ins, oks("PQSU", "U")...)
	})
}

// Every set of names that are missing: those Ins are not Ok, and nothing else is felt.
func TestNamedWithoutSome(t *testing.T) {
	r := ruleOf(t, `rule r { in p, q, s; out a, b, c, d; a = concat p q s; b = copy q; c = concat s p; d = literal "l"; }`)
	reads := []uint{0b111, 0b010, 0b101, 0}
	for set := range uint(8) {
		for _, more := range []string{"", "o", "o out/a P"} {
			names := list(more)
			ins := slices.Repeat(oks("other"), len(names))
			for i, name := range r.Ins {
				if set>>i&1 == 1 {
					names, ins = append(names, name), append(ins, ok(strings.ToUpper(name)))
				}
			}
			want := oks("PQS", "Q", "SP", "l")
			for i := range want {
				if reads[i]&^set != 0 {
					want[i] = failed()
				}
			}
			wantNamed(t, r, names, ins, want...)
		}
	}
}

// Values of names that no In has are not read, not even those of files that the steps make.
func TestNamedWithOtherNames(t *testing.T) {
	r := ruleOf(t, `rule r { in p; out a, b; x = concat p p; a = copy x; b = need a; }`)
	for _, other := range []string{"o", "x", "a", "b", "r", "P", "pp", "p/p", "in", "", "\xff", strings.Repeat("p", 1000)} {
		for _, v := range vals(ok("other"), ok(""), failed(), lost()) {
			wantNamed(t, r, []string{other, "p"}, vals(v, ok("v")), oks("vv", "vv")...)
			wantNamed(t, r, []string{"p", other}, vals(ok("v"), v), oks("vv", "vv")...)
			wantNamed(t, r, []string{other}, vals(v), failed(), failed())
		}
	}
}

func TestNamedWithoutNames(t *testing.T) {
	r := ruleOf(t, `rule r { in p, q; out a, b, c; a = copy p; b = literal "l"; c = concat q; }`)
	for _, none := range [][]string{nil, {}, make([]string, 0, 4)} {
		wantNamed(t, r, none, nil, failed(), ok("l"), failed())
		wantNamed(t, r, none, []api.Val{}, failed(), ok("l"), failed())
	}
}

// A value of a name that is not Ok is no value.
func TestNamedThatAreNotOk(t *testing.T) {
	r := ruleOf(t, `rule r { in p, q; out a, b; a = copy p; b = count q; }`)
	for _, bad := range vals(failed(), lost()) {
		wantNamed(t, r, list("q p"), vals(ok("w"), bad), failed(), ok("1\n"))
		wantNamed(t, r, list("p q"), vals(ok("v"), bad), ok("v"), failed())
		wantNamed(t, r, list("q p"), vals(bad, bad), failed(), failed())
	}
}

// Lists of names and values that do not fit together are no reason to panic; a name without a value has none.
func TestNamedOfUnevenLists(t *testing.T) {
	r := ruleOf(t, `rule r { in p, q; out a, b; a = copy p; b = copy q; }`)
	wantNamed(t, r, list("p q"), nil, failed(), failed())
	wantNamed(t, r, list("p q"), oks("v"), ok("v"), failed())
	wantNamed(t, r, list("q p"), oks("w"), failed(), ok("w"))
	wantNamed(t, r, list("p q"), oks("v", "w", "x"), ok("v"), ok("w"))
	wantNamed(t, r, list("p"), oks("v", "w", "x"), ok("v"), failed())
	wantNamed(t, r, nil, oks("v", "w"), failed(), failed())
}

// As much of everything as a rule may have.
func TestWideRule(t *testing.T) {
	ins := list("i0 i1 i2 i3 i4 i5 i6 i7")
	steps := []api.Step{{Out: "s0", Op: api.CConcat, Args: ins[:6]}, {Out: "s1", Op: api.CConcat, Args: list("s0 i6 i7")}}
	for i := 2; i < 12; i++ {
		before := fmt.Sprintf("s%d", i-1)
		steps = append(steps, api.Step{Out: fmt.Sprintf("s%d", i), Op: api.CConcat, Args: []string{ins[i%8], before, ins[i%8]}})
	}
	r := api.Rule{Name: "r", Ins: ins, Outs: list("s11 s0 s6 s1"), After: list("a b c d e f g h"), Steps: steps}
	wantTexts(t, r, oks("0", "1", "2", "3", "4", "5", "6", "7"),
		"3210765432012345672345670123", "012345", "654320123456723456", "01234567")
	for i := range ins {
		values := oks("0", "1", "2", "3", "4", "5", "6", "7")
		values[i] = failed()
		want := []api.Val{failed(), failed(), failed(), failed()}
		if i > 5 {
			want[1] = ok("012345")
		}
		wantOf(t, r, values, want...)
	}
}

// A result that is too long is none, and values that are passed in may be longer than a result.
func TestLongValues(t *testing.T) {
	r := ruleOf(t, `rule r { in p, q; out a, b, c; a = concat p q; b = prefix 3 a; x = concat p p; c = prefix 2000 p; }`)
	y := strings.Repeat("y", 2001)
	wantTexts(t, r, oks(y[:2000], ""), y[:2000], "yyy", y[:2000])
	wantTexts(t, r, oks(y[:1999], "z"), y[:1999]+"z", "yyy", y[:1999])
	wantOf(t, r, oks(y[:2000], "z"), failed(), failed(), ok(y[:2000]))
	wantOf(t, r, oks(y, ""), failed(), failed(), ok(y[:2000]))
	wantOf(t, r, oks(strings.Repeat("y", 1<<20), ""), failed(), failed(), ok(y[:2000]))
	wantOf(t, r, oks("", y), failed(), failed(), ok(""))
}

// Every byte stands in an output as it came in.
func TestEachByte(t *testing.T) {
	r := ruleOf(t, `rule r { in p, q; out a, b; x = copy p; a = concat x q x; b = count x; }`)
	for c := range 256 {
		s := string([]byte{byte(c)})
		wantTexts(t, r, oks(s, "-"+s), s+"-"+s+s, "1\n")
	}
}

// anyOp returns a step without its Out and its Args, and how many Args it is to have.
func anyOp(rnd *rand.Rand) (api.Step, int) {
	lits := []string{"", "a", "b", "\n", "ab", "aa", "longer"}
	lit := func(from int) string { return lits[from+rnd.IntN(len(lits)-from)] }
	switch op := 1 + rnd.IntN(9); op {
	case api.CConcat:
		return api.Step{Op: op}, rnd.IntN(7)
	case api.CLiteral:
		return api.Step{Op: op, Lits: []string{lit(0)}}, 0
	case api.CSelect:
		return api.Step{Op: op, Lits: []string{lit(0)}}, 1
	case api.CReplace:
		return api.Step{Op: op, Lits: []string{lit(1), lit(0)}}, 1
	case api.CPrefix:
		return api.Step{Op: op, N: rnd.IntN(12)}, 1
	default:
		return api.Step{Op: op}, 1
	}
}

// anyRule returns a valid rule.
func anyRule(rnd *rand.Rand) api.Rule {
	r := api.Rule{Name: "r", Ins: list("i0 i1 i2 i3 i4 i5 i6 i7")[:rnd.IntN(9)]}
	known := slices.Clone(r.Ins)
	var made []string
	for i := range 1 + rnd.IntN(12) {
		s, reads := anyOp(rnd)
		if len(known) == 0 && reads > 0 {
			s, reads = api.Step{Op: api.CConcat}, 0
		}
		for range reads {
			s.Args = append(s.Args, known[rnd.IntN(len(known))])
		}
		s.Out = fmt.Sprintf("s%d", i)
		known, made = append(known, s.Out), append(made, s.Out)
		r.Steps = append(r.Steps, s)
	}
	rnd.Shuffle(len(made), func(i, j int) { made[i], made[j] = made[j], made[i] })
	r.Outs = made[:1+rnd.IntN(min(4, len(made)))]
	return r
}

// anyVal returns a value, now and then one that is not Ok.
func anyVal(rnd *rand.Rand) api.Val {
	switch rnd.IntN(12) {
	case 0:
		return failed()
	case 1:
		return lost()
	case 2:
		return ok(strings.Repeat("ab\n", 400+rnd.IntN(400)))
	}
	b := make([]byte, rnd.IntN(8))
	for i := range b {
		b[i] = "ab\n"[rnd.IntN(3)]
	}
	return ok(string(b))
}

// onDemand returns the value of a file, worked out from the output back to what it reads.
func onDemand(r api.Rule, ins []api.Val, name string) api.Val {
	if i := slices.Index(r.Ins, name); i >= 0 {
		return ins[i]
	}
	s := r.Steps[slices.IndexFunc(r.Steps, func(s api.Step) bool { return s.Out == name })]
	args := make([]api.Val, 0, len(s.Args))
	for _, arg := range s.Args {
		args = append(args, onDemand(r, ins, arg))
	}
	return step.Do(s, args...)
}

// Made-up rules, against what each output is when it is asked for alone; and Of and Named tell the same.
func TestAnyRule(t *testing.T) {
	made, missed := 0, 0
	for seed := range uint64(3000) {
		rnd := rand.New(rand.NewPCG(8, seed))
		r := anyRule(rnd)
		ins := make([]api.Val, 0, len(r.Ins))
		for range r.Ins {
			ins = append(ins, anyVal(rnd))
		}
		want := make([]api.Val, 0, len(r.Outs))
		for _, out := range r.Outs {
			v := onDemand(r, ins, out)
			want = append(want, v)
			if v.Ok {
				made++
			} else {
				missed++
			}
		}
		wantOf(t, r, ins, want...)
		names, values := append(slices.Clone(r.Ins), "other"), append(slices.Clone(ins), ok("other"))
		rnd.Shuffle(len(names), func(i, j int) {
			names[i], names[j] = names[j], names[i]
			values[i], values[j] = values[j], values[i]
		})
		wantNamed(t, r, names, values, want...)
	}
	if made < 1000 || missed < 1000 {
		t.Errorf("the made-up rules are lopsided: %d outputs are Ok, %d are not", made, missed)
	}
}

// room returns a copy of s with spare room, in which more stands.
func room[E any](s []E, more E) []E {
	all := append(make([]E, 0, len(s)+3), s...)
	return append(all, more, more, more)[:len(s)]
}

// roomy returns a copy of r, whose lists all have spare room.
func roomy(r api.Rule) api.Rule {
	r.Ins, r.Outs, r.After = room(r.Ins, "spare"), room(r.Outs, "spare"), room(r.After, "spare")
	r.Steps = room(r.Steps, api.Step{Out: "spare"})
	for i, s := range r.Steps {
		r.Steps[i].Args, r.Steps[i].Lits = room(s.Args, "spare"), room(s.Lits, "spare")
	}
	return r
}

// spread returns a deep copy of r, with what stands in the spare room of its lists.
func spread(r api.Rule) api.Rule {
	all := func(s []string) []string { return slices.Clone(s[:cap(s)]) }
	r.Ins, r.Outs, r.After = all(r.Ins), all(r.Outs), all(r.After)
	r.Steps = slices.Clone(r.Steps[:cap(r.Steps)])
	for i, s := range r.Steps {
		r.Steps[i].Args, r.Steps[i].Lits = all(s.Args), all(s.Lits)
	}
	return r
}

// Neither the lists that are passed in nor their spare room change.
func TestWhatIsPassedInStays(t *testing.T) {
	r := roomy(ruleOf(t, `rule r { in p, q; out b, a, c; after s, o; x = concat p p; a = replace "v" "w" x; y = need q; b = concat y a; c = prefix 1 p; }`))
	rWas := spread(r)
	for _, values := range [][]api.Val{oks("v", "w"), oks("v", ""), vals(lost(), ok("w")), vals(failed(), lost()), oks("v"), oks("v", "w", "x"), nil} {
		for _, given := range []string{"p q", "q p", "o p", "p", ""} {
			ins, names := room(values, lost()), room(list(given), "spare")
			insWere, namesWere := slices.Clone(ins[:cap(ins)]), slices.Clone(names[:cap(names)])
			run.Of(r, ins...)
			run.Named(r, names, ins)
			if !slices.Equal(ins[:cap(ins)], insWere) || !slices.Equal(names[:cap(names)], namesWere) {
				t.Errorf("P8.1: Of or Named changed its values to %s, its names to %q", told(ins[:cap(ins)]), names[:cap(names)])
			}
			if !reflect.DeepEqual(spread(r), rWas) {
				t.Fatalf("P8.1: Of or Named changed its rule to %+v", spread(r))
			}
		}
	}
}

// What is returned is the caller's own, its spare room among that.
func TestAnswersAreNew(t *testing.T) {
	r := example(t)
	ins, names := room(oks("b\na\n", "Q"), lost()), list("q p")
	want := oks("Qa\na\nb\nb\n", "a\na\nb\nb\n", "2\n")
	swapped := vals(ins[1], ins[0])
	answers := [][]api.Val{run.Of(r, ins...), run.Named(r, names, swapped), run.Of(r, ins...), run.Named(r, names, swapped)}
	for i, answer := range answers {
		answer = answer[:cap(answer)]
		for j := range answer {
			answer[j] = ok("changed")
		}
		for _, other := range answers[i+1:] {
			wantVals(t, "an answer beside one that is changed", other, want)
		}
		if !slices.Equal(ins, oks("b\na\n", "Q")) || !slices.Equal(swapped, oks("Q", "b\na\n")) {
			t.Errorf("P8.1: an answer shares memory with the values: %s, %s", told(ins), told(swapped))
		}
	}
	wantTexts(t, r, oks("b\na\n", "Q"), "Qa\na\nb\nb\n", "a\na\nb\nb\n", "2\n")
}

// No answer hangs on an earlier call, nor on what became of the lists that were passed in.
func TestNothingIsKept(t *testing.T) {
	r, other := example(t), ruleOf(t, `rule r { in p, q; out b, a, c; x = copy q; a = need x; b = need p; c = literal "l"; y = copy q; }`)
	for range 3 {
		wantTexts(t, r, oks("b\na\n", "Q"), "Qa\na\nb\nb\n", "a\na\nb\nb\n", "2\n")
		wantTexts(t, other, oks("v", "w"), "v", "w", "l")
		wantOf(t, r, oks("b", ""), failed(), ok("bb\n"), ok("1\n"))
		wantOf(t, other, oks("", ""), failed(), failed(), ok("l"))
		wantNamed(t, r, nil, nil, failed(), failed(), failed())
		ins := oks("v", "w")
		run.Of(r, ins...)
		ins[0] = ok("x")
		wantTexts(t, r, ins, "wxx\n", "xx\n", "1\n")
		wantNamed(t, r, list("p"), oks("x"), failed(), ok("xx\n"), ok("1\n"))
	}
}

// A name that nobody makes has no value, also where an earlier call knew one of that name.
func TestNoNamesAreKept(t *testing.T) {
	stray := api.Rule{Name: "r", Ins: list("i"), Outs: list("o p"), Steps: []api.Step{{Out: "o", Op: api.CConcat, Args: list("i p")}}}
	for range 2 {
		wantVals(t, "Of a rule that reads a name of no file", run.Of(stray, ok("v")), vals(failed(), failed()))
		wantVals(t, "Named of a rule that reads a name of no file", run.Named(stray, list("i"), oks("v")), vals(failed(), failed()))
		wantTexts(t, ruleOf(t, `rule r { in q; out p; p = copy q; }`), oks("made"), "made")
		wantTexts(t, ruleOf(t, `rule r { in p; out q; q = copy p; }`), oks("read"), "read")
	}
}

// wrongRules are rules that are not valid, each in a way of its own.
func wrongRules() []api.Rule {
	a := api.Step{Out: "a", Op: api.CCopy, Args: list("p")}
	return []api.Rule{
		{},
		{Ins: list("p"), Steps: []api.Step{a}},
		{Ins: list("p"), Outs: list("a")},
		{Ins: list("p"), Outs: list("p"), Steps: []api.Step{a}},
		{Ins: list("p"), Outs: list("a b"), Steps: []api.Step{a}},
		{Ins: list("p"), Outs: list("a a"), Steps: []api.Step{a, a}},
		{Ins: list("p p"), Outs: list("a"), Steps: []api.Step{a}},
		{Ins: list("p"), Outs: list("b"), Steps: []api.Step{{Out: "b", Op: api.CSort, Args: list("a")}, a}},
		{Ins: list("p"), Outs: list("a"), Steps: []api.Step{{Out: "a", Op: api.CSort, Args: list("a")}}},
		{Ins: list("p"), Outs: list("p"), Steps: []api.Step{{Out: "p", Op: api.CConcat, Args: list("p p p p p p")}}},
		{Ins: list("p"), Outs: list("a"), Steps: []api.Step{{Out: "a", Op: api.CCopy, Args: list("p p")}}},
		{Ins: list("p"), Outs: list("a"), Steps: []api.Step{{Out: "a", Op: api.CCopy}}},
		{Ins: list("p"), Outs: list("a"), Steps: []api.Step{{Out: "a", Op: api.CLiteral}}},
		{Ins: list("p"), Outs: list("a"), Steps: []api.Step{{Out: "a", Op: api.CReplace, Args: list("p"), Lits: []string{"", "x"}}}},
		{Ins: list("p"), Outs: list("a"), Steps: []api.Step{{Out: "a", Op: api.CPrefix, Args: list("p"), N: math.MinInt}}},
		{Ins: list("p"), Outs: list("a"), Steps: []api.Step{{Out: "a", Op: math.MaxInt, Args: list("p")}}},
		{Ins: []string{""}, Outs: []string{""}, Steps: []api.Step{{Op: api.CCopy, Args: []string{""}}}},
		{Ins: []string{"\xff"}, Outs: []string{"in", "\n"}, Steps: []api.Step{{Out: "in", Op: api.CCopy, Args: []string{"\xff"}}}},
		{Ins: list("p"), Outs: list("a"), Steps: slices.Repeat([]api.Step{a}, 1<<12)},
		{Ins: make([]string, 1<<16), Outs: make([]string, 1<<16), Steps: []api.Step{{Op: api.CConcat, Args: make([]string, 1<<16)}}},
	}
}

// Rules that are not valid are no reason to panic, and what is not Ok has no contents for them either.
func TestWrongRules(t *testing.T) {
	for i, r := range wrongRules() {
		for _, v := range vals(ok("v"), ok(""), failed(), lost()) {
			ins := slices.Repeat(vals(v), len(r.Ins))
			answers := [][]api.Val{run.Of(r, ins...), run.Named(r, r.Ins, ins), run.Named(r, nil, nil), run.Named(r, list("p p a"), slices.Repeat(vals(v), 3))}
			for _, vs := range answers {
				if len(vs) != len(r.Outs) || slices.ContainsFunc(vs, func(v api.Val) bool { return !v.Ok && v.B != "" }) {
					t.Errorf("P0.2: rule %d that is not valid: %d Outs, %.300s", i, len(r.Outs), told(vs))
				}
			}
			if vs := run.Of(r, append(ins, v)...); vs != nil {
				t.Errorf("P8.1: rule %d that is not valid, with more ins than Ins: %.300s", i, told(vs))
			}
		}
	}
}

func TestManyNames(t *testing.T) {
	const n = 1 << 18
	names, values := make([]string, n), make([]api.Val, n)
	for i := range names {
		names[i], values[i] = fmt.Sprintf("n%d", i), ok(fmt.Sprint(i))
	}
	r := ruleOf(t, `rule r { in n7, n, n262143; out a, b; a = concat n7 n262143; b = copy n; }`)
	if got := run.Named(r, names, values); !slices.Equal(got, vals(ok("7262143"), failed())) {
		t.Errorf("P8.1: Named of many names = %s", told(got))
	}
}
