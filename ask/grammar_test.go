package ask_test

import (
	"math/rand"
	"slices"
	"strconv"
	"strings"
	"testing"

	"shipwright/api"
	"shipwright/ask"
)

// grammar is the chapter's: what each symbol may be. A symbol that it lacks is a sort of words.
func grammar() map[string][][]string {
	list := strings.Fields
	return map[string][][]string{
		"query": {list("let NAME = query in query"), list("sum")},
		"sum":   {list("item more")},
		"more":  {nil, list("+ item more"), list("^ item more"), list("- item more")},
		"item": {list("NAME"), list(": NAME"), list("$ NAME"), list("( query )"), list("deps ( query far )"), list("rdeps ( query )"),
			list("somepath ( query , query )"), list("allpaths ( query , query )"), list("kind ( KIND , query )"), list("filter ( STRING , query )"), list("all ( )")},
		"far": {nil, list(", NUMBER")},
	}
}

// wordSorts are some words, each with the sorts of words of which it is.
func wordSorts() map[string][]string {
	sorts := map[string][]string{
		"x": {"NAME"}, "0": {"NAME", "NUMBER"}, "1000": {"NAME", "NUMBER"}, "1001": {"NAME"}, "01": {"NAME"}, "made": {"NAME", "KIND"}, "source": {"NAME", "KIND"}, "rule": {"KIND"},
		"out": nil, "a//b": nil, "..": nil, strings.Repeat("x", 41): nil, `""`: {"STRING"}, `"x"`: {"STRING"}, `"rule"`: {"STRING"}, `"7"`: {"STRING"}, `","`: {"STRING"},
	}
	for _, w := range append(reserved(), strings.Fields("in { } , ; = ( ) + ^ : $")...) {
		sorts[w] = []string{w}
	}
	return sorts
}

// starts are all that rest can be such that it begins with a word, or is empty.
func starts(rest []string) [][]string {
	if len(rest) == 0 {
		return [][]string{nil}
	}
	forms, ok := grammar()[rest[0]]
	if !ok {
		return [][]string{rest}
	}
	var all [][]string
	for _, f := range forms {
		all = append(all, starts(slices.Concat(f, rest[1:]))...)
	}
	return all
}

// behindWord is what may follow a word of sorts where rest has to follow, and whether that word can stand there.
func behindWord(rest, sorts []string) ([]string, bool) {
	for _, s := range starts(rest) {
		if len(s) > 0 && slices.Contains(sorts, s[0]) {
			return s[1:], true
		}
	}
	return nil, false
}

// mayEnd reports whether rest can be empty.
func mayEnd(rest []string) bool {
	return slices.ContainsFunc(starts(rest), func(s []string) bool { return len(s) == 0 })
}

// wantEnd fails unless Parse(s), behind which rest has to follow, tells whether that may be nothing.
func wantEnd(t *testing.T, s string, rest []string) {
	t.Helper()
	if !mayEnd(rest) {
		wantFault(t, s, len(s))
	} else if q := parsed(t, s); !ask.Eq(q, parsed(t, ask.Put(q))) {
		t.Errorf("P17.1: Put(Parse(%q)) = %q", s, ask.Put(q))
	}
}

// tryWords goes through all texts that begin with s, behind which rest has to follow, up to n words longer, and returns how many.
func tryWords(t *testing.T, s string, rest []string, n int, sorts map[string][]string) int {
	wantEnd(t, s, rest)
	if n == 0 {
		return 1
	}
	tried := 1
	for w := range sorts {
		if next, ok := behindWord(rest, sorts[w]); ok {
			tried += tryWords(t, s+w+" ", next, n-1, sorts)
			continue
		}
		tried++
		for _, tail := range []string{"", " ", " x", " (", " deps (", ")"} {
			wantFault(t, s+w+tail, len(s))
		}
	}
	return tried
}

// Every word behind every short row of words: the first that cannot stand where it does is told, or there is none.
func TestEveryWordInEveryPlace(t *testing.T) {
	sorts := wordSorts()
	tried := tryWords(t, "", []string{"query"}, 4, sorts)
	for s, rest := range map[string]string{
		"let ": "NAME = query in query", "let v = ": "query in query", "let v = x + ": "item more in query", "let v = x in ": "query", "x + ": "item more", "x - ": "item more",
		"( ": "query ) more", "x ^ ( ": "query ) more", "deps ( ": "query far ) more", "deps ( x ": "more far ) more", "deps ( x , ": "NUMBER ) more", "rdeps ( ": "query ) more",
		"somepath ( ": "query , query ) more", "somepath ( x , ": "query ) more", "allpaths ( ": "query , query ) more", "allpaths ( x , ": "query ) more",
		"kind ( ": "KIND , query ) more", "kind ( rule , ": "query ) more", "filter ( ": "STRING , query ) more", `filter ( "" , `: "query ) more", "all ( ": ") more",
		"x + deps ( let v = x in ( ": "query ) more far ) more", "deps ( deps ( x , ": "NUMBER ) more far ) more", "let v = let w = ": "query in query in query",
	} {
		tried += tryWords(t, s, strings.Fields(rest), 3, sorts)
	}
	if tried < 80000 {
		t.Errorf("P17.1: %d texts were tried", tried)
	}
}

// Long rows of words, made up: most of them with a word that does not fit.
func TestMadeUpWords(t *testing.T) {
	rnd := rand.New(rand.NewSource(1))
	sorts := wordSorts()
	var words []string
	for w := range sorts {
		words = append(words, w)
	}
	slices.Sort(words)
	for range 5000 {
		s, rest := "", []string{"query"}
		for range rnd.Intn(28) {
			w := words[rnd.Intn(len(words))]
			next, ok := behindWord(rest, sorts[w])
			if ok {
				s, rest = s+w+" ", next
			} else if rnd.Intn(200) == 0 {
				wantFault(t, s+w+" "+strings.Join(words[:rnd.Intn(5)], " "), len(s))
			}
		}
		wantEnd(t, s, rest)
	}
}

// scribe makes up a query, and writes a text of it at the same time.
type scribe struct {
	rnd  *rand.Rand
	text strings.Builder
	last string // the word that was written last
	gaps []string
}

// nameByte reports whether c can stand in a name word.
func nameByte(c byte) bool {
	return strings.IndexByte("abcdefghijklmnopqrstuvwxyzABCDEFGHIJKLMNOPQRSTUVWXYZ0123456789._-/", c) >= 0
}

// word writes w behind a gap, and returns where it begins.
func (s *scribe) word(w string) int {
	gap := s.gaps[s.rnd.Intn(len(s.gaps))]
	if gap == "" && s.last != "" && nameByte(s.last[len(s.last)-1]) && nameByte(w[0]) {
		gap = " "
	}
	s.text.WriteString(gap)
	at := s.text.Len()
	s.text.WriteString(w)
	s.last = w
	return at
}

// name writes a name and returns it.
func (s *scribe) name() string {
	names := []string{"a", "b", "a/b", "x-1", "7", "made", "lets", "..."}
	n := names[s.rnd.Intn(len(names))]
	s.word(n)
	return n
}

// query writes a query; size is how much of it there may be.
func (s *scribe) query(size int) api.Query {
	if size > 1 && s.rnd.Intn(6) == 0 {
		at := s.word("let")
		name := s.name()
		s.word("=")
		is := s.query(size / 2)
		s.word("in")
		return api.Query{Kind: api.QLet, At: at, Name: name, Kids: []api.Query{is, s.query(size / 2)}}
	}
	return s.sum(size)
}

// sum writes items with operators between them.
func (s *scribe) sum(size int) api.Query {
	n := 1 + s.rnd.Intn(min(size, 4))
	q := s.item(size / n)
	for range n - 1 {
		o := []string{"+", "^", "-"}[s.rnd.Intn(3)]
		at := s.word(o)
		q = api.Query{Kind: kinds()[o], At: at, Kids: []api.Query{q, s.item(size / n)}}
	}
	return q
}

// item writes an item.
func (s *scribe) item(size int) api.Query {
	form := s.rnd.Intn(12)
	switch {
	case form < 2 || form > 3 && size < 2:
		at := s.text.Len()
		name := s.name()
		return api.Query{Kind: api.QLabel, At: at + strings.LastIndex(s.text.String()[at:], name), Label: api.Label{Name: name}}
	case form == 2:
		at := s.word(":")
		return api.Query{Kind: api.QLabel, At: at, Label: api.Label{Rule: true, Name: s.name()}}
	case form == 3:
		at := s.word("$")
		return api.Query{Kind: api.QVar, At: at, Name: s.name()}
	case form < 6:
		s.word("(")
		q := s.query(size - 1)
		s.word(")")
		return q
	}
	return s.call(form+api.QDeps-6, size)
}

// call writes a call of kind, or all().
func (s *scribe) call(kind, size int) api.Query {
	names := map[int]string{api.QDeps: "deps", api.QRdeps: "rdeps", api.QSome: "somepath", api.QAll: "allpaths", api.QKind: "kind", api.QFilter: "filter"}
	if s.rnd.Intn(10) == 0 {
		kind, names = api.QWhole, map[int]string{api.QWhole: "all"}
	}
	q := api.Query{Kind: kind, At: s.word(names[kind])}
	s.word("(")
	switch kind {
	case api.QKind:
		q.Name = []string{"rule", "made", "source"}[s.rnd.Intn(3)]
		s.word(q.Name)
		s.word(",")
	case api.QFilter:
		q.Name = []string{"", "a", "a b", "\n", "\x00\xff\"\\"}[s.rnd.Intn(5)]
		s.word(map[string]string{"": `""`, "a": `"\x61"`, "a b": `"a b"`, "\n": `"\n"`, "\x00\xff\"\\": `"\x00\xff\"\\"`}[q.Name])
		s.word(",")
	case api.QSome, api.QAll:
		q.Kids = append(q.Kids, s.query(size/2))
		s.word(",")
	}
	if kind != api.QWhole {
		q.Kids = append(q.Kids, s.query(size/2))
	}
	if kind == api.QDeps {
		q.N = s.far()
	}
	s.word(")")
	return q
}

// far writes a number, or none.
func (s *scribe) far() int {
	n := []int{-1, 0, 1, 77, 1000}[s.rnd.Intn(5)]
	if n >= 0 {
		s.word(",")
		s.word(strconv.Itoa(n))
	}
	return n
}

// made are n made-up queries of up to size, each with a text of it.
func made(n, size int, gaps ...string) (queries []api.Query, texts []string) {
	for i := range n {
		s := scribe{rnd: rand.New(rand.NewSource(int64(i))), gaps: gaps}
		queries = append(queries, s.query(1+i%size))
		texts = append(texts, s.text.String())
	}
	return queries, texts
}

// depth is how deep q is.
func depth(q api.Query) int {
	most := 0
	for _, k := range q.Kids {
		most = max(most, depth(k))
	}
	return 1 + most
}

func TestMadeUpQueries(t *testing.T) {
	for _, gaps := range [][]string{{" "}, {""}, {"", "", "", " ", "\n", "\t", "\r\n", "#\n", "# x )\n"}} {
		queries, texts := made(6000, 60, gaps...)
		long := 0
		for i, q := range queries {
			if len(texts[i]) > api.MaxAsk || depth(q) > api.MaxDeep {
				wantMost(t, texts[i])
				long++
				continue
			}
			wantQuery(t, texts[i], q)
			for _, tail := range []string{" x", ")", " =", " in", ",", ":", "\"\""} {
				if len(texts[i]+tail) <= api.MaxAsk {
					wantFault(t, texts[i]+tail, len(texts[i]+tail)-len(strings.TrimLeft(tail, " ")))
				}
			}
		}
		if long == len(queries) {
			t.Errorf("P17.1: no text was short enough")
		}
	}
}
