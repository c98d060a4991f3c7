package deno_test

import (
	"fmt"
	"math/rand/v2"
	"reflect"
	"slices"
	"strings"
	"testing"

	"shipwright/api"
	"shipwright/check"
	"shipwright/deno"
	"shipwright/parse"
	"shipwright/slice"
	"shipwright/step"
	"shipwright/tree"
)

// list returns the words of s.
func list(s string) []string { return strings.Fields(s) }

// rulesOf returns the rules of a rule file.
func rulesOf(t *testing.T, text string) []api.Rule {
	t.Helper()
	rs, err := parse.File(text)
	if err.Code != api.OK {
		t.Fatalf("parse.File(%q) = %+v", text, err)
	}
	return rs
}

// treeOf returns a tree of these files: a name, its contents, the next name, and so on.
func treeOf(t *testing.T, pairs ...string) *tree.Tree {
	t.Helper()
	tr := tree.New()
	for pair := range slices.Chunk(pairs, 2) {
		if code := tr.Write(pair[0], pair[1]); code != api.OK {
			t.Fatalf("tree.Write(%q, %.50q) = %d", pair[0], pair[1], code)
		}
	}
	return tr
}

// failed is a value that is not Ok.
func failed() api.Val { return api.Val{} }

// lost is a value that is not Ok either, whatever stands in it.
func lost() api.Val { return api.Val{B: "lost\n"} }

// ok returns the value b.
func ok(b string) api.Val { return api.Val{Ok: true, B: b} }

// told tells values in a test's complaint.
func told(vs []api.Val) string {
	words := make([]string, 0, len(vs))
	for _, v := range vs {
		word := fmt.Sprintf("%.100q of %d bytes", v.B, len(v.B))
		if !v.Ok {
			word = "not Ok: " + word
		}
		words = append(words, word)
	}
	return "[" + strings.Join(words, ", ") + "]"
}

// wantFiles fails unless Files(rs, tr, names...) is want, and File tells the same of each name.
func wantFiles(t *testing.T, rs []api.Rule, tr *tree.Tree, names []string, want ...api.Val) {
	t.Helper()
	if got := deno.Files(rs, tr, names...); !slices.Equal(got, want) {
		t.Errorf("P11.1: Files of %.900s, %.300q, %.300q = %.900s, not %.900s", fmt.Sprintf("%+v", rs), tr.Key(), names, told(got), told(want))
	}
	for i, name := range names {
		if got := deno.File(rs, tr, name); i < len(want) && got != want[i] {
			t.Errorf("P11.1: File of %.900s, %.300q, %.50q = %s, not %s", fmt.Sprintf("%+v", rs), tr.Key(), name, told([]api.Val{got}), told(want[i:i+1]))
		}
	}
}

// wantTexts fails unless the files are Ok, with the contents want.
func wantTexts(t *testing.T, rs []api.Rule, tr *tree.Tree, names string, want ...string) {
	t.Helper()
	var vals []api.Val
	for _, b := range want {
		vals = append(vals, ok(b))
	}
	wantFiles(t, rs, tr, list(names), vals...)
}

// wantFailed fails unless all of the files are not Ok.
func wantFailed(t *testing.T, rs []api.Rule, tr *tree.Tree, names ...string) {
	t.Helper()
	wantFiles(t, rs, tr, names, make([]api.Val, len(names))...)
}

// ordersOf calls f with l in every order.
func ordersOf[E any](l []E, f func([]E)) {
	var place func(at int)
	place = func(at int) {
		if at == len(l) {
			f(slices.Clone(l))
			return
		}
		for i := at; i < len(l); i++ {
			l[at], l[i] = l[i], l[at]
			place(at + 1)
			l[at], l[i] = l[i], l[at]
		}
	}
	l = slices.Clone(l)
	place(0)
}

// example returns the rules and the tree of the chapter's example.
func example(t *testing.T) ([]api.Rule, *tree.Tree) {
	t.Helper()
	rs := rulesOf(t, `rule last { in mid, src; out end; end = concat mid src; }
rule first { in src, gone; out mid, bad; mid = sort src; bad = copy gone; }`)
	return rs, treeOf(t, "src", "b\na", "mid", "hidden")
}

func TestExample(t *testing.T) {
	rs, tr := example(t)
	ordersOf(rs, func(rs []api.Rule) {
		wantTexts(t, rs, tr, "mid end", "a\nb\n", "a\nb\nb\na")
		wantFailed(t, rs, tr, "bad")
		wantTexts(t, rs, tr, "src", "b\na")
		wantFailed(t, rs, tr, "gone")
		ordersOf(list("mid end bad src gone"), func(names []string) {
			values := map[string]api.Val{"mid": ok("a\nb\n"), "end": ok("a\nb\nb\na"), "src": ok("b\na")}
			var want []api.Val
			for _, name := range names {
				want = append(want, values[name])
			}
			wantFiles(t, rs, tr, names, want...)
		})
	})
}

// The value of a file that a rule makes is the rule's, also where that is not Ok, and whatever the tree has of that name.
func TestMadeAndInTheTree(t *testing.T) {
	rs := rulesOf(t, `rule r { in s, gone; out a, b, c, e; a = copy s; b = copy gone; e = literal ""; c = need e; }
rule u { in a, b, c, e; out d, f, g, h; d = copy a; f = copy b; g = copy c; h = concat e; }`)
	ordersOf(rs, func(rs []api.Rule) {
		for _, hidden := range []string{"hidden", "", "v", strings.Repeat("h", 2000)} {
			tr := treeOf(t, "s", "v", "a", hidden, "b", hidden, "c", hidden, "d", hidden, "e", hidden, "f", hidden, "g", hidden, "h", hidden)
			wantTexts(t, rs, tr, "a d e h s", "v", "v", "", "", "v")
			wantFailed(t, rs, tr, list("b c f g gone")...)
		}
	})
}

// A file that a step makes and that is none of Outs is the tree's, for a caller as for another rule.
func TestMadeByAStepAlone(t *testing.T) {
	rs := rulesOf(t, `rule r { in s; out a; m = copy s; a = count m; n = literal "n"; }
rule u { in m, n; out b, c; b = copy m; c = copy n; }
rule v { in s; out d; m = concat s s; d = copy m; }`)
	ordersOf(rs, func(rs []api.Rule) {
		tr := treeOf(t, "s", "x", "m", "the tree's")
		wantTexts(t, rs, tr, "m b a d", "the tree's", "the tree's", "1\n", "xx")
		wantFailed(t, rs, tr, list("n c")...)
		tr = treeOf(t, "s", "x", "n", "")
		wantTexts(t, rs, tr, "n c a d", "", "", "1\n", "xx")
		wantFailed(t, rs, tr, list("m b")...)
	})
}

// Names of nothing: not in the tree and made by no rule, though a rule, or another file, may be called nearly so.
func TestNamesOfNothing(t *testing.T) {
	rs, tr := example(t)
	long := strings.Repeat("n", 40)
	none := append(list("none last first concat sort MID mi midd mid/ /mid mid/mid mi* in out after rule . .. a//b a/../src ./src"),
		"", " ", "src ", " src", "src\n", "src\x00", "\x00", "\xff", "a b", "b\na", "hidden", "ö", long, long+"n", strings.Repeat("src/", 1<<16))
	wantFailed(t, rs, tr, none...)
	wantFailed(t, nil, tr, none...)
	wantFailed(t, rs, nil, none...)
	tr.Write(long, "forty")
	wantTexts(t, rs, tr, long, "forty")
}

// A source is what the tree has, byte by byte, and it is Ok where it is empty.
func TestSources(t *testing.T) {
	var all strings.Builder
	for c := range 256 {
		all.WriteByte(byte(c))
	}
	for _, b := range []string{"", "x", "b\na", "\n", "\xff\x00", all.String(), strings.Repeat("y", 2000)} {
		tr := treeOf(t, "s", b, "t", "other", "a/s", "another")
		wantTexts(t, nil, tr, "s t a/s", b, "other", "another")
		wantTexts(t, rulesOf(t, `rule r { in s; out a/t; a/t = copy s; }`), tr, "s t a/s a/t", b, "other", "another", b)
		tr.Erase("s")
		wantFailed(t, rulesOf(t, `rule r { in s; out a/t; a/t = copy s; }`), tr, "s", "a/t")
	}
}

// One file of a rule may be Ok and another one not, and what reads them follows.
func TestOkBesideNotOk(t *testing.T) {
	rs := rulesOf(t, `rule r { in p, gone; out good, bad, fixed; good = sort p; bad = concat p gone; fixed = literal "l"; }
rule u { in good, bad, gone; out a, b, c; a = copy good; b = concat good bad; c = count bad; }
rule v { in fixed, b, a; out d, e; d = concat fixed a; e = copy b; }`)
	ordersOf(rs, func(rs []api.Rule) {
		tr := treeOf(t, "p", "y\nx")
		wantTexts(t, rs, tr, "good fixed a d", "x\ny\n", "l", "x\ny\n", "lx\ny\n")
		wantFailed(t, rs, tr, list("bad b c e gone")...)
		tr.Write("gone", "\nhere")
		wantTexts(t, rs, tr, "bad b c e", "y\nx\nhere", "x\ny\ny\nx\nhere", "3\n", "x\ny\ny\nx\nhere")
		tr.Erase("p")
		wantTexts(t, rs, tr, "fixed gone", "l", "\nhere")
		wantFailed(t, rs, tr, list("good bad a b c d e p")...)
	})
}

// An empty file is Ok, whether the tree has it or a rule makes it, and may be read as any other.
func TestEmptyFiles(t *testing.T) {
	rs := rulesOf(t, `rule r { in s; out a, b, c, d; a = copy s; b = concat; c = literal ""; d = prefix 0 s; }
rule u { in a, b, c, d; out e, f, g, h; e = concat a b c d; f = count b; g = need c; h = sort d; }`)
	tr := treeOf(t, "s", "")
	ordersOf(rs, func(rs []api.Rule) {
		wantTexts(t, rs, tr, "s a b c d e f h", "", "", "", "", "", "", "0\n", "")
		wantFailed(t, rs, tr, "g")
	})
}

// A value beyond 2,000 bytes is none, nor is what is made of it, however short that would be.
func TestLongValues(t *testing.T) {
	rs := rulesOf(t, `rule r1 { in s; out twice; twice = concat s s; }
rule r2 { in twice, e; out more, same; more = concat twice e; same = copy twice; }
rule r3 { in more, same; out short, n, whole; short = prefix 1 more; n = count more; whole = sort same; }
rule r4 { in short, s; out last, least; last = concat s short; least = prefix 1 s; }`)
	ordersOf(rs, func(rs []api.Rule) {
		y := strings.Repeat("y", 2000)
		tr := treeOf(t, "s", y[:1000], "e", "")
		wantTexts(t, rs, tr, "twice more same short n last least", y, y, y, "y", "1\n", y[:1001], "y")
		wantFailed(t, rs, tr, "whole") // a newline more than its lines
		tr.Write("e", "e")
		wantTexts(t, rs, tr, "twice same least", y, y, "y")
		wantFailed(t, rs, tr, list("more short n last whole")...)
		tr.Write("s", y[:1001])
		wantTexts(t, rs, tr, "least", "y")
		wantFailed(t, rs, tr, list("twice more same short n last whole")...)
	})
}

// After is no matter of what files are: not its order, not what it names, not whether that fails.
func TestAfter(t *testing.T) {
	rs := rulesOf(t, `rule a { in s; out x; after b, c; x = copy s; }
rule b { in gone, s; out y; after c; y = concat s gone; }
rule c { out z; z = literal "z"; }`)
	tr := treeOf(t, "s", "v")
	ordersOf(rs, func(rs []api.Rule) {
		wantTexts(t, rs, tr, "x z", "v", "z")
		wantFailed(t, rs, tr, "y")
		for i := range rs {
			rs[i].After = nil
		}
		wantTexts(t, rs, tr, "x z", "v", "z")
		wantFailed(t, rs, tr, "y")
	})
}

// The Ins are handed on by their places, whatever their order, and the Outs told by theirs.
func TestOrderOfInsAndOuts(t *testing.T) {
	rs := rulesOf(t, `rule r { in s, p; out a, b, c; a = concat s p; b = copy p; c = count s; }
rule u { in a, b, c; out d; d = concat c b a; }`)
	tr := treeOf(t, "s", "S", "p", "P")
	ordersOf(rs[0].Ins, func(ins []string) {
		ordersOf(rs[0].Outs, func(outs []string) {
			ordersOf(rs[1].Ins, func(later []string) {
				r, u := rs[0], rs[1]
				r.Ins, r.Outs, u.Ins = ins, outs, later
				wantTexts(t, []api.Rule{u, r}, tr, "a b c d", "SP", "P", "1\n", "1\nPSP")
			})
		})
	})
}

// Names of files and of rules that are alike, or nearly so, are those of different things.
func TestNamesThatAreAlike(t *testing.T) {
	rs := rulesOf(t, `rule a { in b; out c; c = concat b b; }
rule b { in A, a; out aa, a/a; aa = concat A a; a/a = copy a; }
rule c { in a/a, aa; out a.a; after a; a.a = concat a/a aa; }`)
	tr := treeOf(t, "a", "1", "A", "2", "b", "3", "B", "4", "a_a", "5")
	ordersOf(rs, func(rs []api.Rule) {
		wantTexts(t, rs, tr, "a A b B a_a c aa a/a a.a", "1", "2", "3", "4", "5", "33", "21", "1", "121")
	})
}

// chain returns n rules, each of which makes files of those of the one ahead of it; the first reads s.
func chain(n, width int) []api.Rule {
	var rs []api.Rule
	files := func(i int) []string {
		var all []string
		for j := range width {
			all = append(all, fmt.Sprintf("f%d.%d", i, j))
		}
		return all
	}
	for i := range n {
		r := api.Rule{Name: fmt.Sprint("r", i), Ins: list("s"), Outs: files(i)}
		if i > 0 {
			r.Ins = files(i - 1)
		}
		for _, out := range r.Outs {
			both := out + "x"
			r.Steps = append(r.Steps, api.Step{Out: both, Op: api.CConcat, Args: r.Ins}, api.Step{Out: out, Op: api.CPrefix, Args: []string{both}, N: 3})
		}
		rs = append(rs, r)
	}
	return rs
}

// As many rules as may be, each of which reads the one ahead of it several times: the ways from the last file to the
// first are far too many to be gone one by one, whatever the order of the rules, and also where nothing is Ok.
func TestVeryManyWays(t *testing.T) {
	for _, width := range []int{2, 3, 4} {
		rs := chain(api.MaxRules, width)
		var names []string
		for _, r := range rs {
			names = append(names, r.Outs...)
		}
		for _, order := range []string{"forth", "back", "mixed"} {
			switch order {
			case "back":
				slices.Reverse(rs)
			case "mixed":
				rand.New(rand.NewPCG(1, 2)).Shuffle(len(rs), func(i, j int) { rs[i], rs[j] = rs[j], rs[i] })
			}
			wantFailed(t, rs, nil, fmt.Sprint("f39.", width-1), "f39.0", "f0.0", "s")
			wantFailed(t, rs, treeOf(t, "none", "x"), "f39.1", "s")
			wantTexts(t, rs, treeOf(t, "s", ""), "f39.1 f0.0", "", "")
			tr := treeOf(t, "s", "uvwx")
			wantTexts(t, rs, tr, "s f39.0 f39.1 f38.0", "uvwx", "uvw", "uvw", "uvw")
			vals := deno.Files(rs, tr, names...)
			if len(vals) != 40*width || slices.ContainsFunc(vals, func(v api.Val) bool { return v != ok("uvw") }) {
				t.Errorf("P11.1: Files of a chain of %d each = %.900s", width, told(vals))
			}
		}
	}
}

// As many rules as may be, each of which makes one file of those of the eight ahead of it: each file is wanted again
// and again, after others were made.
func TestEachReadsManyAhead(t *testing.T) {
	var rs []api.Rule
	for i := range api.MaxRules {
		out := fmt.Sprint("f", i)
		r := api.Rule{Name: fmt.Sprint("r", i), Outs: []string{out}, Ins: list("s")}
		for j := max(0, i-7); j < i; j++ {
			r.Ins = append(r.Ins, fmt.Sprint("f", j))
		}
		r.Steps = []api.Step{{Out: "all", Op: api.CConcat, Args: r.Ins[max(0, len(r.Ins)-6):]}, {Out: out, Op: api.CPrefix, Args: list("all"), N: 3}}
		rs = append(rs, r)
	}
	for range 2 {
		tr := treeOf(t, "s", "abcd")
		wantTexts(t, rs, tr, "f39 f0 f38 f20 f39 s", "abc", "abc", "abc", "abc", "abc", "abcd")
		wantFailed(t, rs, nil, list("f39 f38 f0 f39 s")...)
		slices.Reverse(rs)
	}
}

// A chain in every order of its rules, which is no matter.
func TestRulesInAnyOrder(t *testing.T) {
	rs := rulesOf(t, `rule d { in s; out a; a = concat s s; }
rule b { in a, s; out c; c = concat s a; }
rule e { in c, a; out m, x; m = count c; x = concat a c; }
rule a { in x, c; out k; k = concat c x; }
rule c { in m, gone; out n, q; n = copy m; q = copy gone; }`)
	ordersOf(rs, func(rs []api.Rule) {
		tr := treeOf(t, "s", "v")
		wantTexts(t, rs, tr, "a c m x k n s", "vv", "vvv", "1\n", "vvvvv", "vvvvvvvv", "1\n", "v")
		wantFailed(t, rs, tr, "q", "gone")
	})
}

// refused returns lists of rules that check.All does not accept, each beside a rule good, which makes x.
func refused(t *testing.T) map[string][]api.Rule {
	t.Helper()
	good := func(text string) []api.Rule {
		return append(rulesOf(t, `rule good { in s; out x; x = copy s; }`), rulesOf(t, text)...)
	}
	noOuts := good(`rule r { out a; a = concat; }`)
	noOuts[1].Outs = nil
	wrongStep := good(`rule r { out a; a = concat; }`)
	wrongStep[1].Steps[0].N = 1
	many := good(``)
	for i := range 40 {
		out := fmt.Sprint("o", i)
		many = append(many, rulesOf(t, `rule r`+out+` { out `+out+`; `+out+` = concat; }`)...)
	}
	return map[string][]api.Rule{
		"ErrForm, no Outs":         noOuts,
		"ErrForm, a step":          wrongStep,
		"ErrForm, one empty rule":  {{}},
		"ErrMost, Ins":             good(`rule r { in a, b, c, d, e, f, g, h, i; out o; o = concat; }`),
		"ErrName, In and Out":      good(`rule r { in a; out a; a = concat; }`),
		"ErrName, Out of no step":  good(`rule r { out a; }`),
		"ErrName, Arg of nothing":  good(`rule r { out a; a = copy s; }`),
		"ErrMost, 41 rules":        many,
		"ErrName, two names":       good(`rule good { out a; a = concat; }`),
		"ErrName, two makers":      good(`rule r { in s; out x; x = copy s; }`),
		"ErrName, After of none":   good(`rule r { out a; after none; a = concat; }`),
		"ErrCycle, of files":       good(`rule r { in a; out b; b = concat; } rule u { in b; out a; a = concat; }`),
		"ErrCycle, of After":       good(`rule r { out a; after u; a = concat; } rule u { out b; after r; b = concat; }`),
		"ErrCycle, of both":        good(`rule r { in b; out a; a = concat; } rule u { out b; after r; b = concat; }`),
		"ErrCycle, through itself": good(`rule r { in x, b; out a; a = copy b; } rule u { in a; out b; b = copy a; }`),
	}
}

// Of rules that check.All does not accept nothing is Ok, not even what no rule makes or what has nothing to do with the error.
func TestRulesThatAreRefused(t *testing.T) {
	tr := treeOf(t, "s", "v", "x", "hidden", "a", "hidden", "other", "o")
	codes := map[string]api.Errno{"ErrForm": api.ErrForm, "ErrMost": api.ErrMost, "ErrName": api.ErrName, "ErrCycle": api.ErrCycle}
	for name, rs := range refused(t) {
		wanted, _, _ := strings.Cut(name, ",")
		if code, _ := check.All(rs); code != codes[wanted] {
			t.Fatalf("%s: check.All = %d", name, code)
		}
		wantFiles(t, rs, tr, nil)
		for range 2 {
			for _, names := range []string{"s", "x", "a", "other", "none", "s s", "s x a b other none s"} {
				wantFailed(t, rs, tr, list(names)...)
			}
			wantFailed(t, rs, tr, "", "in", "\xff")
			wantFailed(t, rs, nil, list("s x a none")...)
			slices.Reverse(rs)
		}
		if len(rs) > 1 {
			rs = slices.DeleteFunc(rs, func(r api.Rule) bool { return r.Name != "good" || r.Outs[0] != "x" })
			wantTexts(t, rs, tr, "s x a other", "v", "v", "hidden", "o")
		}
	}
}

// Without rules, every file is the tree's; without a tree, only what rules make of nothing is there.
func TestNoRulesAndNoTree(t *testing.T) {
	tr := treeOf(t, "s", "v", "x", "")
	for _, none := range [][]api.Rule{nil, {}, make([]api.Rule, 0, 3)} {
		wantTexts(t, none, tr, "s x s", "v", "", "v")
		wantFailed(t, none, tr, "none", "")
		wantFiles(t, none, tr, nil)
		wantFailed(t, none, nil, "s", "", "in")
		wantFiles(t, none, nil, nil)
	}
	rs := rulesOf(t, `rule r { in s; out a, b, c; a = copy s; b = literal "l"; c = concat b b; } rule u { in b, a; out d, e; d = count b; e = copy a; }`)
	for _, empty := range []*tree.Tree{nil, tree.New(), {}} {
		wantTexts(t, rs, empty, "b c d", "l", "ll", "1\n")
		wantFailed(t, rs, empty, list("s a e none")...)
		wantFailed(t, nil, empty, list("s a b")...)
	}
}

// Files of no names, of one name more than once, and of names in any order.
func TestFiles(t *testing.T) {
	rs, tr := example(t)
	for _, none := range [][]string{nil, {}, make([]string, 0, 4)} {
		if got := deno.Files(rs, tr, none...); len(got) != 0 {
			t.Errorf("P11.1: Files of no names = %s", told(got))
		}
	}
	wantTexts(t, rs, tr, "mid", "a\nb\n")
	wantTexts(t, rs, tr, "mid mid", "a\nb\n", "a\nb\n")
	wantTexts(t, rs, tr, "src end src end mid end", "b\na", "a\nb\nb\na", "b\na", "a\nb\nb\na", "a\nb\n", "a\nb\nb\na")
	wantFiles(t, rs, tr, list("bad mid bad none end gone none bad"), failed(), ok("a\nb\n"), failed(), failed(), ok("a\nb\nb\na"), failed(), failed(), failed())
}

func TestEq(t *testing.T) {
	for _, x := range []struct {
		a, b api.Val
		want bool
	}{
		{ok("x"), ok("x"), true}, {ok(""), ok(""), true}, {ok("a\nb\x00\xff"), ok("a\nb\x00\xff"), true},
		{ok("x"), ok("y"), false}, {ok("x"), ok(""), false}, {ok("x"), ok("xx"), false}, {ok("x"), ok("X"), false}, {ok("x"), ok("x\n"), false},
		{ok("x"), failed(), false}, {ok(""), failed(), false}, {ok("lost\n"), lost(), false}, {ok(""), lost(), false},
		{failed(), failed(), true}, {failed(), lost(), true}, {lost(), lost(), true}, {lost(), api.Val{B: "other"}, true},
		{ok(strings.Repeat("y", 1<<20)), ok(strings.Repeat("y", 1<<20)), true}, {ok(strings.Repeat("y", 1<<20)), ok(strings.Repeat("y", 1<<20-1) + "z"), false},
	} {
		if deno.Eq(x.a, x.b) != x.want || deno.Eq(x.b, x.a) != x.want {
			t.Errorf("P11.1: Eq of %s is not %t", told([]api.Val{x.a, x.b}), x.want)
		}
	}
}

// Each value that File gives is equal to itself, and to no other one.
func TestEqOfFiles(t *testing.T) {
	rs, tr := example(t)
	names := list("src mid end bad")
	vals := deno.Files(rs, tr, names...)
	for i, name := range names {
		for j := range vals {
			if got := deno.Eq(deno.File(rs, tr, name), vals[j]); got != (i == j) {
				t.Errorf("P11.1: Eq of %s and %s = %t", name, names[j], got)
			}
		}
	}
}

// W1, for a rule and one that reads it: a source that a file does not read may be anything, or gone.
func TestSourcesThatAreNotRead(t *testing.T) {
	rs := rulesOf(t, `rule r { in p, q, u; out a, b; a = sort p; m = copy u; b = concat q a; n = concat m b; }
rule v { in a, w, u; out c, d; c = count a; d = concat w u; }`)
	values := map[string]string{"a": "x\ny\n", "b": "Qx\ny\n", "c": "2\n", "d": "WU"}
	reads := map[string]string{"a": "p", "b": "p q", "c": "p", "d": "u w"}
	for out, want := range values {
		for set := range 16 {
			for _, other := range []string{"", "other\n", "gone", strings.Repeat("o", 2000)} {
				tr := treeOf(t, "p", "y\nx", "q", "Q", "u", "U", "w", "W")
				for i, name := range list("p q u w") {
					switch {
					case set>>i&1 == 0 || slices.Contains(list(reads[out]), name):
					case other == "gone":
						tr.Erase(name)
					default:
						tr.Write(name, other)
					}
				}
				if got := deno.File(rs, tr, out); got != ok(want) {
					t.Errorf("W1: %s = %s, not %q, where %q is what it does not read", out, told([]api.Val{got}), want, tr.Key())
				}
			}
		}
	}
}

// W1: what an In becomes that a rule has and that a file does not read is of no matter to the file, neither where it
// stands in a step that the file does not depend on, nor where it stands in none.
func TestInsThatAreNotRead(t *testing.T) {
	const reader = `rule reader { in a, s, x; out b, c; b = copy s; dead = copy x; c = concat a dead s; }
rule last { in b, c; out d; d = count b; e = copy c; }`
	tr := treeOf(t, "s", "v", "x", "X", "other", "o")
	for _, maker := range []string{
		``, // a is not in the tree
		`rule maker { in s; out a; a = copy s; }`,
		`rule maker { in gone; out a; a = copy gone; }`,
		`rule maker { in other; out a; x = literal ""; a = need x; }`,
		`rule maker { out a; a = literal ""; }`,
		`rule maker { out y, a; after other; y = concat; a = copy y; } rule other { out z; z = concat; }`,
		`rule maker { in y; out a; a = concat y y y y y y; } rule other { in s; out y; y = concat s s s s s s; }`,
		`rule maker { in s; out a; a = copy s; } rule other { in gone; out x; x = copy gone; }`,
	} {
		ordersOf(rulesOf(t, reader+maker), func(rs []api.Rule) {
			for name, want := range map[string]string{"b": "v", "d": "1\n"} {
				if got := deno.File(rs, tr, name); got != ok(want) {
					t.Errorf("W1: %s = %s, not %q, with %q", name, told([]api.Val{got}), want, maker)
				}
			}
		})
	}
	wantFailed(t, rulesOf(t, reader), tr, "c") // which does read it
}

// anyOp returns a step without its Out and its Args, and how many Args it is to have.
func anyOp(rnd *rand.Rand) (api.Step, int) {
	lits := []string{"", "a", "b", "\n", "ab", "f0", "longer"}
	lit := func(from int) string { return lits[from+rnd.IntN(len(lits)-from)] }
	switch op := 1 + rnd.IntN(9); op {
	case api.CConcat:
		return api.Step{Op: op}, rnd.IntN(7)
	case api.CLiteral:
		return api.Step{Op: op, Lits: []string{lit(0)}}, 0
	case api.CSelect:
		return api.Step{Op: op, Lits: []string{lit(0)}}, 1
	case api.CReplace:
		return api.Step{Op: op, Lits: []string{lit(1), lit(0)}}, 1
	case api.CPrefix:
		return api.Step{Op: op, N: rnd.IntN(12)}, 1
	default:
		return api.Step{Op: op}, 1
	}
}

// mixed returns a copy of l in any order.
func mixed[E any](rnd *rand.Rand, l []E) []E {
	l = slices.Clone(l)
	rnd.Shuffle(len(l), func(i, j int) { l[i], l[j] = l[j], l[i] })
	return l
}

// anyRules returns rules that check.All accepts, and the names of all files in them and of some that are not.
func anyRules(rnd *rand.Rand) ([]api.Rule, []string) {
	names := list("s0 s1 s2 s3 t0 t1")
	var rs []api.Rule
	for i := range rnd.IntN(7) {
		// Of what is there so far, so that there is no cycle.
		r := api.Rule{Name: fmt.Sprint("r", i), Ins: mixed(rnd, names)[:rnd.IntN(5)]}
		known := slices.Clone(r.Ins)
		var made []string
		for j := range 1 + rnd.IntN(5) {
			s, reads := anyOp(rnd)
			if len(known) == 0 && reads > 0 {
				s, reads = api.Step{Op: api.CConcat}, 0
			}
			for range reads {
				s.Args = append(s.Args, known[rnd.IntN(len(known))])
			}
			s.Out = fmt.Sprintf("f%d.%d", i, j)
			if t := fmt.Sprint("t", rnd.IntN(2)); rnd.IntN(4) == 0 && !slices.Contains(known, t) {
				// Such a one is made by steps of several rules, and by no rule.
				s.Out = t
			} else {
				made = append(made, s.Out)
			}
			r.Steps, known = append(r.Steps, s), append(known, s.Out)
		}
		for _, other := range mixed(rnd, rs)[:min(len(rs), rnd.IntN(3))] {
			r.After = append(r.After, other.Name)
		}
		if r.Outs = mixed(rnd, made)[:min(len(made), 1+rnd.IntN(4))]; len(made) > 0 {
			rs, names = append(rs, r), append(names, made...)
		}
	}
	return mixed(rnd, rs), names
}

// anyText returns contents of a file, now and then long ones.
func anyText(rnd *rand.Rand) string {
	if rnd.IntN(12) == 0 {
		return strings.Repeat("ab\n", 400+rnd.IntN(200))
	}
	b := make([]byte, rnd.IntN(8))
	for i := range b {
		b[i] = "ab\n"[rnd.IntN(3)]
	}
	return string(b)
}

// anyTree returns a tree that has most of the names.
func anyTree(rnd *rand.Rand, names []string) *tree.Tree {
	tr := tree.New()
	for _, name := range names {
		if rnd.IntN(6) > 0 {
			tr.Write(name, anyText(rnd))
		}
	}
	return tr
}

// makerOf returns the rule that makes the file, if one does.
func makerOf(rs []api.Rule, file string) (api.Rule, bool) {
	for _, r := range rs {
		if slices.Contains(r.Outs, file) {
			return r, true
		}
	}
	return api.Rule{}, false
}

// naive is File, as the chapter says it, worked out back from the file.
func naive(rs []api.Rule, tr *tree.Tree, file string) api.Val {
	r, made := makerOf(rs, file)
	if made {
		return within(rs, tr, r, file)
	}
	if b, there := tr.Read(file); there {
		return ok(b)
	}
	return failed()
}

// within returns what a file is in a rule that makes or reads it.
func within(rs []api.Rule, tr *tree.Tree, r api.Rule, file string) api.Val {
	if slices.Contains(r.Ins, file) {
		return naive(rs, tr, file)
	}
	s := r.Steps[slices.IndexFunc(r.Steps, func(s api.Step) bool { return s.Out == file })]
	args := make([]api.Val, 0, len(s.Args))
	for _, arg := range s.Args {
		args = append(args, within(rs, tr, r, arg))
	}
	return step.Do(s, args...)
}

// Made-up rules and trees, against the chapter's words taken file by file.
func TestAnyRules(t *testing.T) {
	made, missed := 0, 0
	for seed := range uint64(3000) {
		rnd := rand.New(rand.NewPCG(11, seed))
		rs, names := anyRules(rnd)
		if code, name := check.All(rs); code != api.OK {
			t.Fatalf("check.All(%+v) = %d, %q", rs, code, name)
		}
		tr := anyTree(rnd, names)
		names = append(mixed(rnd, names), mixed(rnd, names)[:3]...)
		var want []api.Val
		for _, name := range names {
			v := naive(rs, tr, name)
			want = append(want, v)
			if _, isMade := makerOf(rs, name); isMade && v.Ok {
				made++
			} else if isMade {
				missed++
			}
		}
		wantFiles(t, rs, tr, names, want...)
	}
	if made < 5000 || missed < 2000 {
		t.Errorf("the made-up rules are lopsided: %d files are Ok, %d are not", made, missed)
	}
}

// readsOf puts into all what file reads, near and far, itself among that.
func readsOf(rs []api.Rule, file string, all map[string]bool) {
	if all[file] {
		return
	}
	all[file] = true
	if r, made := makerOf(rs, file); made {
		for _, in := range slice.Reads(r, file) {
			readsOf(rs, in, all)
		}
	}
}

// cut returns what of the rules the files need that are in reads, and the sources among these.
func cut(rs []api.Rule, tr *tree.Tree, reads map[string]bool) ([]api.Rule, *tree.Tree) {
	var left []api.Rule
	sources := tree.New()
	for name := range reads {
		if b, there := tr.Read(name); there {
			sources.Write(name, b)
		}
	}
	for _, r := range rs {
		part := api.Rule{Name: r.Name}
		var at []int
		for _, out := range r.Outs {
			if reads[out] {
				part.Outs, part.Ins, at = append(part.Outs, out), append(part.Ins, slice.Reads(r, out)...), append(at, slice.Steps(r, out)...)
				sources.Erase(out)
			}
		}
		slices.Sort(at)
		for _, i := range slices.Compact(at) {
			part.Steps = append(part.Steps, r.Steps[i])
		}
		slices.Sort(part.Ins)
		part.Ins = slices.Compact(part.Ins)
		if len(part.Outs) > 0 {
			left = append(left, part)
		}
	}
	return left, sources
}

// turned returns the rules and the tree with everything changed, gone or broken that a file does not read which reads
// only what is in reads.
func turned(rnd *rand.Rand, rs []api.Rule, tr *tree.Tree, names []string, reads map[string]bool) ([]api.Rule, *tree.Tree) {
	rs, tr = slices.Clone(rs), tr.Clone()
	for i, r := range rs {
		part, _ := cut([]api.Rule{r}, nil, reads)
		keep := api.Rule{}
		if len(part) > 0 {
			keep = part[0]
		}
		rs[i].Steps = nil
		for _, s := range r.Steps {
			if !slices.ContainsFunc(keep.Steps, func(k api.Step) bool { return k.Out == s.Out }) {
				s = api.Step{Out: s.Out, Op: api.CLiteral, Lits: []string{"turned"}}
				if len(r.Ins) > 0 && rnd.IntN(2) == 0 {
					s = api.Step{Out: s.Out, Op: api.CNeed, Args: []string{r.Ins[rnd.IntN(len(r.Ins))]}}
				}
			}
			rs[i].Steps = append(rs[i].Steps, s)
		}
	}
	for _, name := range names {
		if _, made := makerOf(rs, name); reads[name] && !made {
			continue
		}
		if tr.Erase(name); rnd.IntN(2) == 0 {
			tr.Write(name, "turned")
		}
	}
	return rs, tr
}

// W1, for made-up rules and trees: a file is what it is, whatever becomes of that which it does not read, and where
// nothing else is left.
func TestWhatIsNotReadIsOfNoMatter(t *testing.T) {
	made, changed := 0, 0
	for seed := range uint64(600) {
		rnd := rand.New(rand.NewPCG(12, seed))
		rs, names := anyRules(rnd)
		tr := anyTree(rnd, names)
		vals := deno.Files(rs, tr, names...)
		for i, name := range names {
			reads := map[string]bool{}
			readsOf(rs, name, reads)
			fewRules, fewFiles := cut(rs, tr, reads)
			otherRules, otherFiles := turned(rnd, rs, tr, names, reads)
			for _, x := range []struct {
				rs []api.Rule
				tr *tree.Tree
			}{{rs, otherFiles}, {otherRules, tr}, {otherRules, otherFiles}, {fewRules, fewFiles}, {mixed(rnd, fewRules), tr}} {
				if code, _ := check.All(x.rs); code != api.OK {
					t.Fatalf("check.All(%+v) = %d", x.rs, code)
				}
				if got := deno.File(x.rs, x.tr, name); got != vals[i] {
					t.Errorf("W1: %s, in %+v and %q, is %s, but %s in %+v and %q", name, rs, tr.Key(), told(vals[i:i+1]), told([]api.Val{got}), x.rs, x.tr.Key())
				}
			}
			for j, v := range deno.Files(otherRules, otherFiles, names...) {
				if v != vals[j] {
					changed++
				}
			}
			if _, isMade := makerOf(rs, name); isMade && vals[i].Ok {
				made++
			}
		}
	}
	if made < 1000 || changed < 20000 {
		t.Errorf("the made-up rules are lopsided: %d files are made and Ok, and %d times another one was changed", made, changed)
	}
}

// room returns a copy of s with spare room, in which more stands.
func room[E any](s []E, more E) []E {
	all := append(make([]E, 0, len(s)+3), s...)
	return append(all, more, more, more)[:len(s)]
}

// roomy returns copies of the rules, whose lists all have spare room, in which spare stands.
func roomy(rs []api.Rule, spare string) []api.Rule {
	rs = room(rs, api.Rule{Name: spare})
	for i, r := range rs {
		r.Ins, r.Outs, r.After = room(r.Ins, spare), room(r.Outs, spare), room(r.After, spare)
		r.Steps = room(r.Steps, api.Step{Out: spare})
		for j, s := range r.Steps {
			r.Steps[j].Args, r.Steps[j].Lits = room(s.Args, spare), room(s.Lits, spare)
		}
		rs[i] = r
	}
	return rs
}

// spread returns a deep copy of the rules, with what stands in the spare room of their lists.
func spread(rs []api.Rule) []api.Rule {
	all := func(s []string) []string { return slices.Clone(s[:cap(s)]) }
	rs = slices.Clone(rs[:cap(rs)])
	for i, r := range rs {
		r.Ins, r.Outs, r.After = all(r.Ins), all(r.Outs), all(r.After)
		r.Steps = slices.Clone(r.Steps[:cap(r.Steps)])
		for j, s := range r.Steps {
			r.Steps[j].Args, r.Steps[j].Lits = all(s.Args), all(s.Lits)
		}
		rs[i] = r
	}
	return rs
}

// Neither the rules nor the names, nor the spare room of either, nor the tree change, whether the rules are accepted or not.
func TestWhatIsPassedInStays(t *testing.T) {
	fine, tr := example(t)
	all := refused(t)
	all["accepted"] = fine
	tr.Write("s", "v")
	for _, rs := range all {
		rs, names := roomy(rs, "spare"), room(list("src end none mid bad s x src"), "spare")
		rsWere, namesWere, trWas := spread(rs), slices.Clone(names[:cap(names)]), tr.Key()
		for _, call := range []func(){
			func() { deno.Files(rs, tr, names...) },
			func() { deno.File(rs, tr, "end") },
			func() { deno.File(rs, tr, "x") },
		} {
			// After each call, for the next one might turn back what it changed.
			call()
			if !reflect.DeepEqual(spread(rs), rsWere) {
				t.Fatalf("P11.1: a call changed its rules to %+v", spread(rs))
			}
			if !slices.Equal(names[:cap(names)], namesWere) {
				t.Fatalf("P11.1: a call changed its names to %q", names[:cap(names)])
			}
			if tr.Key() != trWas {
				t.Fatalf("P11.1: a call changed its tree to %q", tr.Key())
			}
		}
	}
}

// What stands in the spare room of lists is no part of them.
func TestSpareRoomIsNotRead(t *testing.T) {
	plain, tr := example(t)
	for _, spare := range append(list("spare src mid end gone in last"), "") {
		rs := roomy(plain, spare)
		wantFiles(t, rs, tr, room(list("end mid bad src gone spare"), spare), ok("a\nb\nb\na"), ok("a\nb\n"), failed(), ok("b\na"), failed(), failed())
	}
}

// What is returned is the caller's own, its spare room among that.
func TestAnswersAreNew(t *testing.T) {
	fine, tr := example(t)
	names := list("src end none mid bad end")
	for _, rs := range [][]api.Rule{fine, nil, refused(t)["ErrCycle, of files"]} {
		want := slices.Clone(deno.Files(rs, tr, names...))
		answers := [][]api.Val{deno.Files(rs, tr, names...), deno.Files(rs, tr, names...), deno.Files(rs, tr, names...)}
		for i, answer := range answers {
			answer = answer[:cap(answer)]
			for j := range answer {
				answer[j] = ok("changed")
			}
			// Ahead of the next call, which would make a shared one good again.
			for _, later := range answers[i+1:] {
				if !slices.Equal(later, want) {
					t.Fatalf("P11.1: an answer beside one that was changed is %s, not %s", told(later), told(want))
				}
			}
			wantFiles(t, rs, tr, names, want...)
		}
	}
}

// No answer hangs on an earlier call, nor on what became of the rules, the tree or the names since.
func TestNothingIsKept(t *testing.T) {
	rs, tr := example(t)
	other := rulesOf(t, `rule last { in src; out mid; mid = copy src; } rule first { in mid; out bad, src2; bad = copy mid; src2 = count mid; }`)
	names := list("mid bad end")
	before := deno.Files(rs, tr, names...)
	for range 3 {
		wantFiles(t, rs, tr, names, ok("a\nb\n"), failed(), ok("a\nb\nb\na"))
		wantFiles(t, other, tr, names, ok("b\na"), ok("b\na"), failed())
		wantFiles(t, refused(t)["ErrName, two names"], tr, names, failed(), failed(), failed())
		wantFiles(t, nil, tr, names, ok("hidden"), failed(), failed())
		wantFiles(t, rs, nil, names, failed(), failed(), failed())
	}
	tr.Write("src", "z")
	tr.Write("gone", "here")
	wantFiles(t, rs, tr, names, ok("z\n"), ok("here"), ok("z\nz"))
	tr.Erase("src")
	wantFiles(t, rs, tr, names, failed(), ok("here"), failed())
	rs[1].Steps[0] = api.Step{Out: "mid", Op: api.CCopy, Args: list("gone")}
	wantFiles(t, rs, tr, names, ok("here"), ok("here"), failed())
	rs[0].Outs[0], rs[0].Steps[0] = "bad", api.Step{Out: "bad", Op: api.CConcat}
	wantFiles(t, rs, tr, names, failed(), failed(), failed()) // two make it
	names[0] = "none"
	if !slices.Equal(before, []api.Val{ok("a\nb\n"), failed(), ok("a\nb\nb\na")}) {
		t.Errorf("P11.1: an answer became %s", told(before))
	}
}

// Rules, names and trees beyond all that is sound are no reason to panic or to go on for ever.
func TestWhatIsBeyondAll(t *testing.T) {
	tr := treeOf(t, "s", "v", "a", "hidden")
	self := api.Rule{Name: "r", Ins: list("a"), Outs: list("a"), Steps: []api.Step{{Out: "a", Op: api.CCopy, Args: list("a")}}}
	for _, rs := range [][]api.Rule{
		make([]api.Rule, 1), make([]api.Rule, 1<<18), {self}, {self, self}, slices.Repeat([]api.Rule{self}, 1<<14),
		{{Name: "r", Ins: make([]string, 1<<18), Outs: list("a")}}, {{Name: "r", Outs: make([]string, 1<<18)}},
		{{Name: "r", Outs: list("a"), Steps: make([]api.Step, 1<<18)}}, {{Name: "r", Ins: list("s s"), Outs: list("a"), Steps: []api.Step{{Out: "a", Op: -1 << 63, N: -1 << 63}}}},
		{{Name: "", Ins: []string{""}, Outs: []string{""}, Steps: []api.Step{{Op: api.CCopy, Args: []string{""}}}}},
	} {
		wantFailed(t, rs, tr, "s", "a", "", "none")
		wantFailed(t, rs, nil, "s", "a", "", "none")
	}
	const n = 1 << 17
	rs, names := chain(api.MaxRules, 2), slices.Repeat(list("f39.0 none s f0.1"), n)
	vals := deno.Files(rs, tr, names...)
	want := slices.Repeat([]api.Val{ok("vvv"), failed(), ok("v"), ok("v")}, n)
	if !slices.Equal(vals, want) {
		t.Errorf("P11.1: Files of %d names = %.300s", len(names), told(vals[:4]))
	}
}
