package ask_test

import (
	"reflect"
	"slices"
	"strings"
	"testing"

	"shipwright/api"
	"shipwright/ask"
)

func TestAnyBytes(t *testing.T) {
	for a := range 256 {
		for b := range 256 {
			s := string([]byte{byte(a), byte(b)})
			if q, err := ask.Parse(s); err.Code != api.ErrForm && (err != (api.Err{}) || q.Kind == 0) || err.Code != api.OK && !reflect.DeepEqual(q, api.Query{}) {
				t.Fatalf("P0.1: Parse(%q) = %s, %+v", s, show(q), err)
			}
		}
	}
	for _, s := range []string{"\xff", "\x00", strings.Repeat("\x80", 400), strings.Repeat("\"", 400), strings.Repeat("\\", 399), strings.Repeat("let v = ", 50), strings.Repeat("(-", 200)} {
		if q, err := ask.Parse(s); err.Code != api.ErrForm || q.Kind != 0 {
			t.Errorf("P0.1: Parse(%.20q) = %s, %+v", s, show(q), err)
		}
	}
}

// Queries that Parse never returns: every call comes to an end, and Eq and Deep tell what the chapter says.
func TestAnyQueries(t *testing.T) {
	var qs []api.Query
	for _, kind := range []int{-1 << 63, -1, 0, 1, 2, 3, 4, 5, 6, 7, 8, 9, 10, 11, 12, 13, 14, 1000, 1<<63 - 1} {
		for n := range 4 {
			for _, number := range []int{-1 << 63, -2, 0, 1001, 1<<63 - 1} {
				kids := make([]api.Query, n)
				for i := range kids {
					kids[i] = api.Query{Kind: kind, Name: "let", N: number}
				}
				qs = append(qs, api.Query{Kind: kind, At: number, Label: api.Label{Name: "\xff\x00"}, Name: "(\"", N: number, Kids: kids})
			}
		}
	}
	for i, a := range qs {
		_ = ask.Put(a)
		wantDeep(t, a, depth(a))
		for j, b := range qs {
			if ask.Eq(a, b) != (i == j) {
				t.Fatalf("P17.1: Eq(%s, %s) = %v", show(a), show(b), i != j)
			}
		}
	}
}

// nested is a query in which there are n-1 others, one in the other.
func nested(n int, last string) api.Query {
	q := file(last)
	for range n - 1 {
		q = api.Query{Kind: api.QRdeps, Kids: []api.Query{q}}
	}
	return q
}

func TestVeryDeepAndVeryWide(t *testing.T) {
	const n = 400000
	a, b, c := nested(n, "a"), nested(n, "a"), nested(n, "b")
	if ask.Deep(a) != n || !ask.Eq(a, b) || ask.Eq(a, c) || ask.Eq(a, a.Kids[0]) {
		t.Errorf("P17.1: Deep and Eq of a very deep query")
	}
	_ = ask.Put(a)
	a, b = api.Query{Kids: make([]api.Query, n)}, api.Query{Kids: make([]api.Query, n)}
	b.Kids[n-1].Name = "x"
	if ask.Deep(a) != 2 || ask.Eq(a, b) || !ask.Eq(a, a) {
		t.Errorf("P17.1: Deep and Eq of a very wide query")
	}
	_ = ask.Put(a)
	_ = ask.Put(op(api.QUnion, file("x"), a))
}

// Kids that share memory count in each place, and those that hold what holds them bring no call into a circle.
func TestKidsThatShareMemory(t *testing.T) {
	kids := []api.Query{file("x"), file("x")}
	a, b := op(api.QUnion, file("x"), file("x")), op(api.QMeet, file("x"), file("x"))
	for n := 2; n < 60; n++ {
		wantDeep(t, a, n)
		if !ask.Eq(a, a) || ask.Eq(a, b) || ask.Eq(a, kids[0]) {
			t.Errorf("P17.1: Eq of %d levels that share memory", n)
		}
		if n < 8 {
			wantSame(t, ask.Put(a), a)
		}
		_ = ask.Put(a)
		a, b = op(api.QUnion, a, a), op(api.QUnion, a, b)
		a.Kids[1].Kids, b.Kids[0].Kids = a.Kids[0].Kids, a.Kids[0].Kids
	}
	circle := make([]api.Query, 3)
	for i := range circle {
		circle[i] = api.Query{Kind: api.QUnion, Kids: circle}
	}
	other := slices.Clone(circle)
	other[2].Name = "x"
	ring := make([]api.Query, 1)
	ring[0] = api.Query{Kind: api.QRdeps, Kids: ring}
	for _, q := range []api.Query{circle[0], other[0], ring[0], {Kids: other}} {
		_, _ = ask.Put(q), ask.Deep(q)
		_, _ = ask.Eq(q, q), ask.Eq(q, circle[1])
	}
	wantEq(t, api.Query{Kids: circle}, api.Query{Kids: other}, false)
}

// roomy is q with room behind each list of Kids, in which something stands.
func roomy(q api.Query) api.Query {
	kids := make([]api.Query, 0, len(q.Kids)+3)
	for _, k := range q.Kids {
		kids = append(kids, roomy(k))
	}
	q.Kids = append(kids, file("room"), rule("room"))[:len(q.Kids)]
	return q
}

// withRoom is q, with what stands in the room behind its Kids among them, in new memory.
func withRoom(q api.Query) api.Query {
	var kids []api.Query
	for _, k := range q.Kids[:cap(q.Kids)] {
		kids = append(kids, withRoom(k))
	}
	q.Kids = kids
	return q
}

// What is passed in stays as it was, what stands behind it in memory too, and a later change of it is seen in later answers alone.
func TestWhatIsPassedInStays(t *testing.T) {
	const s = `let v = deps(a + :b, 7) ^ $w in somepath(c, d) - allpaths(deps(e), kind(made, filter("s", all()))) - (a + b)`
	q, same := roomy(parsed(t, s)), roomy(parsed(t, s))
	before := withRoom(q)
	wantText(t, q, s)
	wantEq(t, q, same, true)
	wantDeep(t, q, depth(q))
	if !reflect.DeepEqual(withRoom(q), before) || !reflect.DeepEqual(withRoom(same), before) {
		t.Errorf("P0.3: what is passed in is changed")
	}
	text := ask.Put(q)
	for i := range nodes(&q) {
		n := nodes(&q)[i]
		n.Name, n.Label.Name = "z", "z"
	}
	if text != s || ask.Put(q) == s || ask.Eq(q, same) {
		t.Errorf("P0.3: what is passed in is kept")
	}
	q.Kids[1].Kids[1].Kids = []api.Query{nested(20, "x"), file("y")}
	wantDeep(t, q, 23)
}

// What is done to one list of an answer, the room behind it among that, is seen in no other list and in no other answer.
func TestAnswersAreTheCallersOwn(t *testing.T) {
	const s = `let v = deps(a + :b, 7) ^ $w in somepath(c, d) - allpaths(deps(e), kind(made, filter("s", all()))) - (a + b)`
	want, other := parsed(t, s), parsed(t, s)
	count := len(nodes(&want))
	for i := range count {
		q := parsed(t, s)
		n := nodes(&q)[i]
		kids := n.Kids
		n.Kids = bare(*n).Kids
		for j := range kids {
			kids[j] = file("other")
		}
		for j := range kids[len(kids):cap(kids)] {
			kids[len(kids):cap(kids)][j] = file("over")
		}
		_ = append(kids, file("over"), file("over"), file("over"))
		if !reflect.DeepEqual(bare(q), bare(want)) || !reflect.DeepEqual(bare(other), bare(want)) {
			t.Errorf("P0.3: the Kids of node %d share memory", i)
		}
		wantQuery(t, s, want)
	}
	for _, n := range nodes(&other) {
		n.Name, n.Label.Name, n.At = "z", "z", 99
	}
	wantQuery(t, s, want)
	wantText(t, want, s)
}

// The same calls in any order have the same answers.
func TestCallsTellTheSameAgain(t *testing.T) {
	queries, texts := made(300, 30, "", " ", "\n")
	told := func(i int) (api.Query, api.Err, string, int) {
		q, err := ask.Parse(texts[i])
		return q, err, ask.Put(queries[i]), ask.Deep(queries[i])
	}
	type answer struct {
		q    api.Query
		err  api.Err
		text string
		deep int
	}
	var first []answer
	for i := range texts {
		q, err, text, deep := told(i)
		first = append(first, answer{q, err, text, deep})
	}
	for i := len(texts) - 1; i >= 0; i-- {
		if q, err, text, deep := told(i); !reflect.DeepEqual(answer{q, err, text, deep}, first[i]) {
			t.Errorf("P0.5: other answers for %q", texts[i])
		}
	}
}
