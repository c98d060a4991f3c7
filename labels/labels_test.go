package labels_test

import (
	"fmt"
	"math/rand/v2"
	"reflect"
	"slices"
	"strconv"
	"strings"
	"testing"

	"shipwright/api"
	"shipwright/labels"
)

// Has, All and Len can be asked of both, of a Set as Base's.
var (
	_ asked = (*labels.Base)(nil)
	_ asked = (*labels.Set)(nil)
)

type asked interface {
	Has(l api.Label) bool
	All() []api.Label
	Len() int
}

func file(name string) api.Label { return api.Label{Name: name} }

func rule(name string) api.Label { return api.Label{Rule: true, Name: name} }

// list returns the labels of the words of s: a word with a colon ahead is a rule's, any other one a file's.
func list(s string) []api.Label {
	var ls []api.Label
	for _, word := range strings.Fields(s) {
		name, isRule := strings.CutPrefix(word, ":")
		ls = append(ls, api.Label{Rule: isRule, Name: name})
	}
	return ls
}

// set returns a set of the labels of the words of s.
func set(s string) *labels.Set { return labels.New(list(s)...) }

// told tells labels in a test's complaint.
func told(ls []api.Label) string {
	words := make([]string, 0, len(ls))
	for _, l := range ls {
		kind := "file "
		if l.Rule {
			kind = "rule "
		}
		words = append(words, kind+strconv.Quote(l.Name))
	}
	return fmt.Sprintf("[%.900s]", strings.Join(words, ", "))
}

// wantAsked fails unless b has the elements want, which are in ascending order, and none beside them.
func wantAsked(t *testing.T, call string, b asked, want []api.Label) {
	t.Helper()
	if got := b.All(); !slices.Equal(got, want) {
		t.Errorf("P12.1: after %s, All = %s, not %s", call, told(got), told(want))
	}
	if got := b.Len(); got != len(want) {
		t.Errorf("P12.1: after %s, Len = %d, not %d", call, got, len(want))
	}
	for _, l := range want {
		other := api.Label{Rule: !l.Rule, Name: l.Name}
		for _, x := range []api.Label{l, other, {Rule: l.Rule, Name: l.Name + "x"}, {Rule: l.Rule, Name: "x" + l.Name}} {
			if got := b.Has(x); got != slices.Contains(want, x) {
				t.Errorf("P12.1: after %s, Has of %s = %v", call, told([]api.Label{x}), got)
			}
		}
	}
	for _, l := range []api.Label{file(""), rule(""), file("no such"), rule("no such")} {
		if got := b.Has(l); got != slices.Contains(want, l) {
			t.Errorf("P12.1: after %s, Has of %s = %v", call, told([]api.Label{l}), got)
		}
	}
}

// wantSet fails unless the set s has the labels of the words of want, which are in ascending order, and none beside them.
func wantSet(t *testing.T, call string, s *labels.Set, want string) {
	t.Helper()
	if s == nil {
		t.Fatalf("P12.1: %s = nil", call)
	}
	wantAsked(t, call, s, list(want))
	wantAsked(t, call, &s.Base, list(want))
}

// wantEq fails unless Eq of s and u, and of u and s, is want.
func wantEq(t *testing.T, call string, s, u *labels.Set, want bool) {
	t.Helper()
	if got := s.Eq(u); got != want {
		t.Errorf("P12.1: Eq of %s = %v", call, got)
	}
	if got := u.Eq(s); got != want {
		t.Errorf("P12.1: Eq of %s, the other way round = %v", call, got)
	}
}

// wantNew fails unless s.Add(ls...) returns want.
func wantNew(t *testing.T, call string, s *labels.Set, ls []api.Label, want int) {
	t.Helper()
	if got := s.Add(ls...); got != want {
		t.Errorf("P12.1: %s: Add of %s = %d, not %d", call, told(ls), got, want)
	}
}

// ordersOf calls f with l in every order.
func ordersOf[E any](l []E, f func([]E)) {
	var place func(at int)
	place = func(at int) {
		if at == len(l) {
			f(slices.Clone(l))
			return
		}
		for i := at; i < len(l); i++ {
			l[at], l[i] = l[i], l[at]
			place(at + 1)
			l[at], l[i] = l[i], l[at]
		}
	}
	l = slices.Clone(l)
	place(0)
}

// names are some in ascending order, byte by byte.
func names() []string {
	return []string{
		"", "\x00", "\x00\x00", "\n", " ", "-", ".", "..", "/", "0", "10", "2", ":", ":a", "A", "Aa", "B", "Z", "_", "a", "a\x00", "a-b", "a.b",
		"a/", "a/b", "a0", "aA", "aa", "aab", "ab", "b", "z", "zz", "~", "\x7f", "\x80", "\u00e4", "\u4e16", "\U0001f600", "\xff", "\xff\x00", "\xff\xff",
	}
}

// ascending returns labels in ascending order: a file and a rule of each of the names.
func ascending() []api.Label {
	var files, rules []api.Label
	for _, name := range names() {
		files, rules = append(files, file(name)), append(rules, rule(name))
	}
	return append(files, rules...)
}

func TestLess(t *testing.T) {
	ls := ascending()
	for i, a := range ls {
		for j, b := range ls {
			if got := labels.Less(a, b); got != (i < j) {
				t.Errorf("P12.1: Less of %s = %v", told([]api.Label{a, b}), got)
			}
		}
	}
}

func TestLessOfOne(t *testing.T) {
	for _, c := range []struct {
		call string
		a, b api.Label
		want bool
	}{
		{"a file and a rule, in the order of their names", file("a"), rule("b"), true},
		{"a file and a rule, against the order of their names", file("b"), rule("a"), true},
		{"a rule and a file, in the order of their names", rule("a"), file("b"), false},
		{"a rule and a file, against the order of their names", rule("b"), file("a"), false},
		{"a file and a rule of one name", file("a"), rule("a"), true},
		{"a rule and a file of one name", rule("a"), file("a"), false},
		{"a file and itself", file("a"), file("a"), false},
		{"a rule and itself", rule("a"), rule("a"), false},
		{"two files", file("a"), file("b"), true},
		{"two rules", rule("a"), rule("b"), true},
		{"two files, the later one first", file("b"), file("a"), false},
		{"two rules, the later one first", rule("b"), rule("a"), false},
		{"a file and a longer one", file("a"), file("aa"), true},
		{"a long file and a short one behind it", file("azzz"), file("b"), true},
		{"a capital letter behind a small one", file("a"), file("B"), false},
		{"numbers, which are compared as bytes", rule("10"), rule("9"), true},
		{"no names", file(""), file(""), false},
		{"no name and a name", file(""), file("\x00"), true},
		{"rules of no name and a name", rule(""), rule("a"), true},
		{"a file and a rule, both without a name", file(""), rule(""), true},
		{"a rule without a name and a file", rule(""), file("zz"), false},
		{"letters beyond ASCII", file("z"), file("\u00e4"), true},
		{"bytes that are no letters", file("\xff"), file("\u00e4"), false},
	} {
		if got := labels.Less(c.a, c.b); got != c.want {
			t.Errorf("P12.1: Less of %s = %v", c.call, got)
		}
	}
}

func TestName(t *testing.T) {
	for _, name := range append(names(), "rule", "in", "a//b", strings.Repeat("n", 41), strings.Repeat("long/", 1<<18)) {
		if got := labels.Name(file(name)); got != name {
			t.Errorf("P12.1: Name of the file %.50q = %.50q", name, got)
		}
		if got := labels.Name(rule(name)); got != ":"+name {
			t.Errorf("P12.1: Name of the rule %.50q = %.50q", name, got)
		}
	}
}

// The chapter's example, with the labels in every order.
func TestExample(t *testing.T) {
	ordersOf(list("a b c :a :z"), func(ls []api.Label) {
		s := labels.New(ls...)
		wantSet(t, "New", s, "a b c :a :z")
		ordersOf(list("c :q :a"), func(ls []api.Label) {
			u := labels.New(ls...)
			wantSet(t, "New", u, "c :a :q")
			wantSet(t, "Union", s.Union(u), "a b c :a :q :z")
			wantSet(t, "Union the other way round", u.Union(s), "a b c :a :q :z")
			wantSet(t, "Meet", s.Meet(u), "c :a")
			wantSet(t, "Meet the other way round", u.Meet(s), "c :a")
			wantSet(t, "But", s.But(u), "a b :z")
			wantSet(t, "But the other way round", u.But(s), ":q")
			wantEq(t, "the two", s, u, false)
			wantSet(t, "all this", u, "c :a :q")
		})
		wantNew(t, "s", s, list("c"), 0)
		wantSet(t, "Add", s, "a b c :a :z")
	})
}

func TestNew(t *testing.T) {
	wantSet(t, "New of nothing", labels.New(), "")
	wantSet(t, "New of no list", labels.New([]api.Label(nil)...), "")
	wantSet(t, "New of an empty list", labels.New([]api.Label{}...), "")
	for _, c := range []struct{ ls, want string }{
		{"a", "a"}, {":a", ":a"}, {":a a", "a :a"}, {"a a", "a"}, {":a :a", ":a"}, {":a a :a a", "a :a"},
		{"b a", "a b"}, {"b a b", "a b"}, {":b z :a y", "y z :a :b"}, {"a a a a a a a a b", "a b"},
	} {
		wantSet(t, "New of "+c.ls, set(c.ls), c.want)
	}
	wantAsked(t, "New of a file without a name", labels.New(file("")), []api.Label{file("")})
	wantAsked(t, "New of a rule without a name", labels.New(rule("")), []api.Label{rule("")})
	wantAsked(t, "New of both", labels.New(rule(""), file(""), rule("")), []api.Label{file(""), rule("")})
	wantAsked(t, "New of one, without a list", labels.New(rule("r")), []api.Label{rule("r")})
}

func TestNewIsEachTimeAnother(t *testing.T) {
	a, b := labels.New(), labels.New()
	wantNew(t, "a new one", a, list("a"), 1)
	wantSet(t, "Add to another one", b, "")
	wantSet(t, "Add to another one", labels.New(), "")
}

func TestAdd(t *testing.T) {
	s := labels.New()
	for _, c := range []struct {
		call, ls string
		count    int
		want     string
	}{
		{"none to none", "", 0, ""},
		{"one", "m", 1, "m"},
		{"the same again", "m", 0, "m"},
		{"the same, twice", "m m", 0, "m"},
		{"the other kind", ":m", 1, "m :m"},
		{"none", "", 0, "m :m"},
		{"one twice", "a a", 1, "a m :m"},
		{"one thrice, among others", ":a b :a c :a", 3, "a b c m :a :m"},
		{"some of them new", "a z :m :z c", 2, "a b c m z :a :m :z"},
		{"some of them new, and each twice", "a x :m :x a x :m :x", 2, "a b c m x z :a :m :x :z"},
		{"all that are there", ":z :x :m :a z x m c b a", 0, "a b c m x z :a :m :x :z"},
		{"all new", "d :d e", 3, "a b c d e m x z :a :d :m :x :z"},
	} {
		wantNew(t, c.call, s, list(c.ls), c.count)
		wantSet(t, "Add of "+c.call, s, c.want)
	}
	wantNew(t, "no list", s, nil, 0)
	wantNew(t, "its own elements", s, s.All(), 0)
	wantSet(t, "Add of no list and of its own", s, "a b c d e m x z :a :d :m :x :z")
	if got := s.Add(rule("one"), file("one")); got != 2 {
		t.Errorf("P12.1: Add of two, without a list = %d", got)
	}
}

func TestAddOfNoNames(t *testing.T) {
	s := set("a :a")
	wantNew(t, "no names", s, []api.Label{rule(""), {}, rule(""), {}}, 2)
	wantAsked(t, "Add of no names", s, []api.Label{file(""), file("a"), rule(""), rule("a")})
	wantNew(t, "no names again", s, []api.Label{rule(""), {}}, 0)
}

// All is in ascending order in whatever order the labels came in, at once or one by one.
func TestAllIsAscending(t *testing.T) {
	want := ascending()
	for seed := range uint64(50) {
		ls := slices.Clone(want)
		rand.New(rand.NewPCG(1, seed)).Shuffle(len(ls), func(i, j int) { ls[i], ls[j] = ls[j], ls[i] })
		wantAsked(t, "New of all names", labels.New(ls...), want)
		s := labels.New()
		for _, l := range ls {
			wantNew(t, "one by one", s, []api.Label{l}, 1)
		}
		wantAsked(t, "Add one by one", s, want)
	}
	back := slices.Clone(want)
	slices.Reverse(back)
	wantAsked(t, "New of all names, the last one first", labels.New(back...), want)
	wantAsked(t, "New of all names in order", labels.New(want...), want)
	ordersOf(list("a :a b :b aa"), func(ls []api.Label) { wantSet(t, "New of "+told(ls), labels.New(ls...), "a aa b :a :b") })
}

// pair is two sets, each as the words that tell it, and what the calls of the two make.
type pair struct {
	call, s, u          string
	union, meet, su, us string
}

// pairs returns sets with nothing in common, with something, and with all.
func pairs() []pair {
	return []pair{
		{"two empty ones", "", "", "", "", "", ""},
		{"one and an empty one", "a b :a", "", "a b :a", "", "a b :a", ""},
		{"nothing in common", "a c :b", "b d :a", "a b c d :a :b", "", "a c :b", "b d :a"},
		{"nothing but names in common", "a b", ":a :b", "a b :a :b", "", "a b", ":a :b"},
		{"files and rules crosswise", "a :b", "b :a", "a b :a :b", "", "a :b", "b :a"},
		{"a file in common", "a b", "b c", "a b c", "b", "a", "c"},
		{"a rule in common", ":a :b", ":b :c", ":a :b :c", ":b", ":a", ":c"},
		{"some of both kinds in common", "a b d :a :c", "b c d :b :c", "a b c d :a :b :c", "b d :c", "a :a", "c :b"},
		{"one within the other", "a b c :a", "b :a", "a b c :a", "b :a", "a c", ""},
		{"one more at the front", "a b c", "b c", "a b c", "b c", "a", ""},
		{"one more at the end", "a b :z", "a b", "a b :z", "a b", ":z", ""},
		{"all in common", "a b :a :b", "a b :a :b", "a b :a :b", "a b :a :b", "", ""},
		{"one each, the same", "a", "a", "a", "a", "", ""},
		{"one each, of one name", "a", ":a", "a :a", "", "a", ":a"},
		{"as many, with one turned", "a b c", "a b d", "a b c d", "a b", "c", "d"},
	}
}

func TestUnionMeetBut(t *testing.T) {
	for _, p := range pairs() {
		s, u := set(p.s), set(p.u)
		wantSet(t, "Union of "+p.call, s.Union(u), p.union)
		wantSet(t, "Union the other way round of "+p.call, u.Union(s), p.union)
		wantSet(t, "Meet of "+p.call, s.Meet(u), p.meet)
		wantSet(t, "Meet the other way round of "+p.call, u.Meet(s), p.meet)
		wantSet(t, "But of "+p.call, s.But(u), p.su)
		wantSet(t, "But the other way round of "+p.call, u.But(s), p.us)
		wantEq(t, p.call, s, u, p.s == p.u)
		wantSet(t, "all calls of "+p.call, s, p.s)
		wantSet(t, "all calls of "+p.call, u, p.u)
	}
}

func TestWithItself(t *testing.T) {
	for _, words := range []string{"", "a", ":a", "a b c :a :z"} {
		s := set(words)
		wantSet(t, "Union with itself", s.Union(s), words)
		wantSet(t, "Meet with itself", s.Meet(s), words)
		wantSet(t, "But without itself", s.But(s), "")
		wantEq(t, "one and itself", s, s, true)
		wantSet(t, "all calls with itself", s, words)
	}
}

func TestEq(t *testing.T) {
	for _, words := range []string{"", "a", ":a", "a b c :a :z"} {
		s := set(words)
		ordersOf(list(words), func(ls []api.Label) {
			u := labels.New(ls...)
			wantEq(t, "the same in another order", s, u, true)
			u.Add(ls...)
			wantEq(t, "the same, each twice", s, u, true)
			if len(ls) > 0 {
				wantEq(t, "one less", s, labels.New(ls[1:]...), false)
				wantEq(t, "as many, with one turned to its other kind's", s, labels.New(append(ls[1:], api.Label{Rule: !ls[0].Rule, Name: ls[0].Name + "y"})...), false)
			}
			for _, more := range []api.Label{file("x"), rule("x"), file(""), rule("")} {
				wantEq(t, "one more", s, labels.New(append(slices.Clone(ls), more)...), false)
			}
		})
	}
	for _, c := range []struct{ s, u string }{{"a", ":a"}, {"a", "b"}, {"a", "aa"}, {"a", "A"}, {"a :b", "b :a"}, {"a b", "a :b"}, {"a b", "c d"}, {"a b c", "a"}} {
		wantEq(t, c.s+" and "+c.u, set(c.s), set(c.u), false)
	}
	wantEq(t, "a file and a rule without names", labels.New(file("")), labels.New(rule("")), false)
	wantEq(t, "none and a file without a name", labels.New(), labels.New(file("")), false)
}

// Sets are equal by what they have, on whatever way they came to it.
func TestEqTellsTheElementsAlone(t *testing.T) {
	s, u := set("a b :a"), set("b :a")
	wantEq(t, "one less", s, u, false)
	wantNew(t, "the one", u, list("a"), 1)
	wantEq(t, "the same by Add", s, u, true)
	wantEq(t, "the same by Union", s, set("a").Union(set("b :a")), true)
	wantEq(t, "the same by Meet", s, set("a b c :a").Meet(set("a b d :a")), true)
	wantEq(t, "the same by But", s, set("a b c :a").But(set("c d")), true)
	wantEq(t, "the same by All", s, labels.New(s.All()...), true)
	wantNew(t, "one more", s, list(":b"), 1)
	wantEq(t, "one more by Add", s, u, false)
	wantEq(t, "none, by Meet and by But", set("a").Meet(set("b")), set("a").But(set("a")), true)
}

func TestNilSet(t *testing.T) {
	var none *labels.Set
	for _, words := range []string{"", "a", ":a", "a b c :a :z"} {
		s := set(words)
		wantSet(t, "Union with nil", s.Union(nil), words)
		wantSet(t, "Union of nil", none.Union(s), words)
		wantSet(t, "Meet with nil", s.Meet(nil), "")
		wantSet(t, "Meet of nil", none.Meet(s), "")
		wantSet(t, "But without nil", s.But(nil), words)
		wantSet(t, "But of nil", none.But(s), "")
		wantEq(t, "some and nil", s, nil, words == "")
		wantSet(t, "all calls with nil", s, words)
		wantNew(t, "nil", none, list(words), 0)
	}
	for i, made := range []func() *labels.Set{
		func() *labels.Set { return none.Union(nil) }, func() *labels.Set { return none.Meet(nil) }, func() *labels.Set { return none.But(nil) },
	} {
		wantSet(t, "a call of two nils", made(), "")
		wantNew(t, "a set that a call of two nils made", made(), list("a b a"), 2)
		wantSet(t, fmt.Sprint("Add to what call ", i, " of two nils made"), made(), "")
	}
	wantEq(t, "two nils", none, nil, true)
	wantEq(t, "nil and the zero set", none, &labels.Set{}, true)
	wantNew(t, "nil", none, nil, 0)
	wantNew(t, "nil", none, []api.Label{file(""), rule(""), file("a"), file("a")}, 0)
	wantEq(t, "nil after Add", none, labels.New(), true)
}

func TestNilBase(t *testing.T) {
	var none *labels.Base
	wantAsked(t, "nothing", none, nil)
	if none.All() != nil {
		t.Error("P12.1: All of a nil *Base is not nil")
	}
	for _, l := range ascending() {
		if none.Has(l) {
			t.Errorf("P12.1: Has of a nil *Base = true, of %s", told([]api.Label{l}))
		}
	}
}

// The zero values are empty sets, and a zero Set takes labels.
func TestZeroValues(t *testing.T) {
	var b labels.Base
	wantAsked(t, "nothing", &b, nil)
	var s, u labels.Set
	wantSet(t, "nothing", &s, "")
	wantEq(t, "two zero sets", &s, &u, true)
	wantEq(t, "a zero set and a new one", &s, labels.New(), true)
	wantSet(t, "Union of zero sets", s.Union(&u), "")
	wantSet(t, "Meet of zero sets", s.Meet(&u), "")
	wantSet(t, "But of zero sets", s.But(&u), "")
	wantNew(t, "the zero set", &s, nil, 0)
	wantNew(t, "the zero set", &s, list(":b a :b"), 2)
	wantSet(t, "Add to the zero set", &s, "a :b")
	wantSet(t, "Union with a zero set", s.Union(&u), "a :b")
	wantSet(t, "Union of a zero set", u.Union(&s), "a :b")
	wantSet(t, "Meet with a zero set", s.Meet(&u), "")
	wantSet(t, "Meet of a zero set", u.Meet(&s), "")
	wantSet(t, "But with a zero set", s.But(&u), "a :b")
	wantSet(t, "But of a zero set", u.But(&s), "")
	wantEq(t, "some and a zero set", &s, &u, false)
	wantSet(t, "all calls with a zero set", &u, "")
	wantSet(t, "all calls", &labels.Set{}, "")
}

// A Set is a Base, and has nothing beside: what is asked of it is asked of its Base.
func TestBaseIsEmbedded(t *testing.T) {
	kind := reflect.TypeFor[labels.Set]()
	if kind.NumField() != 1 || !kind.Field(0).Anonymous || kind.Field(0).Type != reflect.TypeFor[labels.Base]() {
		t.Error("P12.1: Set is not a struct with Base in it alone")
	}
	s := set("a :a")
	b := &s.Base
	wantAsked(t, "New", b, list("a :a"))
	s.Add(list("b :b")...)
	wantAsked(t, "Add to the Set of a Base", b, list("a b :a :b"))
	has, all, size := s.Has, s.All, s.Len
	s.Add(list("c")...)
	if !has(file("c")) || size() != 5 || !slices.Equal(all(), list("a b c :a :b")) {
		t.Error("P12.1: the methods of a Set, taken ahead of Add, do not see what was added")
	}
}

// room returns a copy of ls with spare room, in which other labels stand.
func room(ls []api.Label) []api.Label {
	all := append(make([]api.Label, 0, len(ls)+3), ls...)
	return append(all, file("spare"), rule("spare"), file(""))[:len(ls)]
}

// Neither the list that is passed in nor its spare room is changed, kept or, as to the spare room, read.
func TestWhatIsPassedInStays(t *testing.T) {
	for _, words := range []string{"", "a", ":z a :z b :a a", "c b a :c :b :a"} {
		ls := room(list(words))
		were := slices.Clone(ls[:cap(ls)])
		made, added := labels.New(ls...), labels.New()
		added.Add(ls...)
		added.Add(file("m"), rule("m"))
		made.Add(file("m"), rule("m"))
		made.All()
		added.Union(made).Add(file("n"))
		if got := ls[:cap(ls)]; !slices.Equal(got, were) {
			t.Errorf("P0.3: New or Add changed its labels from %s to %s", told(were), told(got))
		}
		want := made.All()
		for i := range ls[:cap(ls)] {
			ls[:cap(ls)][i] = rule("changed")
		}
		wantAsked(t, "a change of what New was given", made, want)
		wantAsked(t, "a change of what Add was given", added, want)
		if made.Has(file("spare")) || made.Has(rule("spare")) || made.Has(file("")) {
			t.Error("P12.1: New took what stands in spare room")
		}
	}
}

// Union, Meet, But and Eq change neither of the two.
func TestCallsChangeNoSet(t *testing.T) {
	for _, p := range pairs() {
		s, u := set(p.s), set(p.u)
		for _, call := range []func(){
			func() { s.Union(u) }, func() { s.Meet(u) }, func() { s.But(u) }, func() { s.Eq(u) },
			func() { u.Union(s) }, func() { u.Meet(s) }, func() { u.But(s) }, func() { u.Eq(s) }, func() { s.All(); s.Len(); s.Has(file("x")) },
		} {
			call()
			wantSet(t, "a call of "+p.call, s, p.s)
			wantSet(t, "a call of "+p.call, u, p.u)
		}
	}
}

func TestAllIsNew(t *testing.T) {
	s := set("b a :a c")
	lists := [][]api.Label{s.All(), s.All(), s.Base.All(), s.Union(nil).All(), s.Meet(s).All(), s.But(nil).All()}
	for i, ls := range lists {
		ls = ls[:cap(ls)]
		for j := range ls {
			ls[j] = file("changed")
		}
		// Ahead of the next call, which would make a shared one good again.
		for _, later := range lists[i+1:] {
			if !slices.Equal(later, list("a b c :a")) {
				t.Fatalf("P12.1: All is %s after another result was changed", told(later))
			}
		}
		wantSet(t, "a change of what All returned", s, "a b c :a")
	}
	kept := s.All()
	s.Add(list("aa :z")...)
	if !slices.Equal(kept, list("a b c :a")) {
		t.Errorf("P12.1: what All returned is %s after Add", told(kept))
	}
}

// What is added to one set is added to no other one, whichever was made from which.
func TestSetsShareNothing(t *testing.T) {
	for _, p := range pairs() {
		for _, nothing := range []*labels.Set{nil, {}, labels.New()} {
			s, u := set(p.s), set(p.u)
			sets := []*labels.Set{
				s, u, s.Union(u), u.Union(s), s.Meet(u), u.Meet(s), s.But(u), u.But(s), s.Union(s), s.Meet(s), s.But(s),
				s.Union(nothing), s.Meet(nothing), s.But(nothing), nothing.Union(s), nothing.Meet(s), nothing.But(s), nothing.Union(nothing),
			}
			want := []string{p.s, p.u, p.union, p.union, p.meet, p.meet, p.su, p.us, p.s, p.s, "", p.s, "", p.s, p.s, "", "", ""}
			for i, x := range sets {
				own := list("own" + strconv.Itoa(i) + " :own" + strconv.Itoa(i))
				wantNew(t, "one of "+p.call, x, own, 2)
				for j, y := range sets {
					if has := y.Has(own[0]) || y.Has(own[1]); has != (i == j) {
						t.Errorf("P12.1: of %s, Add to set %d and Has of set %d: %v", p.call, i, j, has)
					}
				}
			}
			for i, x := range sets {
				own := "own" + strconv.Itoa(i)
				ls := append(list(want[i]), file(own), rule(own))
				slices.SortFunc(ls, byKindAndName)
				wantAsked(t, "Add to each set", x, ls)
			}
			if nothing.Union(nil).Len() != 0 {
				t.Errorf("P12.1: an empty set has elements: %s", told(nothing.Union(nil).All()))
			}
		}
	}
}

// byKindAndName compares labels as the chapter tells Less.
func byKindAndName(a, b api.Label) int {
	switch {
	case !a.Rule && b.Rule:
		return -1
	case a.Rule && !b.Rule:
		return 1
	}
	return strings.Compare(a.Name, b.Name)
}

// plain is a set as the chapter tells it: a list in ascending order, each label once.
type plain []api.Label

// with returns the labels of p and ls, and how many of ls were new.
func (p plain) with(ls []api.Label) (plain, int) {
	all := append(slices.Clone(p), ls...)
	slices.SortFunc(all, byKindAndName)
	all = slices.Compact(all)
	return all, len(all) - len(p)
}

// those returns the labels of p that are among others, or else those that are not.
func (p plain) those(others plain, in bool) plain {
	return slices.DeleteFunc(slices.Clone(p), func(l api.Label) bool { return slices.Contains(others, l) != in })
}

// step makes one call, one that rnd picks, of one of the sets and of what it is by the chapter's words.
func step(t *testing.T, rnd *rand.Rand, sets []*labels.Set, model []plain, anyLabels func() []api.Label) {
	t.Helper()
	i, j, k := rnd.IntN(len(sets)), rnd.IntN(len(sets)), rnd.IntN(len(sets))
	switch rnd.IntN(9) {
	case 0:
		sets[k] = sets[i].Union(sets[j])
		model[k], _ = model[i].with(model[j])
	case 1:
		sets[k], model[k] = sets[i].Meet(sets[j]), model[i].those(model[j], true)
	case 2:
		sets[k], model[k] = sets[i].But(sets[j]), model[i].those(model[j], false)
	case 3:
		ls := anyLabels()
		sets[k] = labels.New(ls...)
		model[k], _ = plain(nil).with(ls)
	case 4:
		wantEq(t, "two made-up sets", sets[i], sets[j], slices.Equal(model[i], model[j]))
	default:
		ls := anyLabels()
		more, count := model[i].with(ls)
		wantNew(t, "a made-up set", sets[i], ls, count)
		model[i] = more
	}
}

// Many calls, in a long order that is the same each time, of sets that are made from one another.
func TestManyCalls(t *testing.T) {
	equal, large := 0, 0
	for seed := range uint64(60) {
		rnd := rand.New(rand.NewPCG(2, seed))
		some := ascending()[:8+rnd.IntN(60)]
		some = append(some, list(":a :b :c")...)
		anyLabels := func() []api.Label {
			ls := make([]api.Label, rnd.IntN(4))
			for i := range ls {
				ls[i] = some[rnd.IntN(len(some))]
			}
			return room(ls)
		}
		sets := []*labels.Set{labels.New(), {}, labels.New(), labels.New(), {}}
		model := make([]plain, len(sets))
		for range 150 {
			step(t, rnd, sets, model, anyLabels)
			for i, s := range sets {
				wantAsked(t, "many calls", s, model[i])
				if len(model[i]) > 12 {
					large++
				}
				if i > 0 && len(model[i]) > 0 && s.Eq(sets[i-1]) {
					equal++
				}
			}
			if t.Failed() {
				return
			}
		}
	}
	if equal < 100 || large < 1000 {
		t.Errorf("the made-up sets are lopsided: %d are equal, %d are large", equal, large)
	}
}

// An answer hangs on what the set has, not on the call before: each call tells the same again.
func TestCallsTellTheSameAgain(t *testing.T) {
	s, u := labels.New(ascending()...), set("a b c :a :q")
	want, union := s.All(), s.Union(u).All()
	for range 100 {
		if !slices.Equal(s.All(), want) || !slices.Equal(s.Union(u).All(), union) || s.Len() != len(want) || s.Eq(u) {
			t.Fatal("P12.1: a call tells something else than before")
		}
	}
}

// Very many labels, and very long names, are no reason to panic or to go on for ever.
func TestHugeArguments(t *testing.T) {
	const n = 1 << 17
	ls := make([]api.Label, 0, 2*n)
	s := labels.New()
	for i := range n {
		name := strconv.Itoa(n + n - i)
		ls = append(ls, rule(name), file(name))
		if s.Add(file(name)) != 1 || s.Add(rule(name)) != 1 {
			t.Fatal("P12.1: Add of a new label does not return 1")
		}
	}
	all := labels.New(append(ls, ls...)...)
	if all.Len() != 2*n || !all.Eq(s) || all.Meet(s).Len() != 2*n || all.But(s).Len() != 0 || all.Union(s).Len() != 2*n {
		t.Error("P12.1: sets of very many labels")
	}
	slices.Reverse(ls)
	slices.SortFunc(ls, byKindAndName)
	if !slices.Equal(all.All(), ls) || !slices.Equal(s.All(), ls) {
		t.Error("P12.1: All of very many labels")
	}
	long := strings.Repeat("long/", 1<<20)
	wantNew(t, "very many", s, []api.Label{rule(long), file(long), rule(long + "x")}, 3)
	if !s.Has(file(long)) || s.Has(file(long+"x")) || !labels.Less(file(long), file(long+"x")) || labels.Less(file(long), file(long)) {
		t.Error("P12.1: very long names")
	}
}
