package words_test

import (
	"strings"
	"testing"

	"shipwright/api"
	"shipwright/words"
)

// reader is a reader ahead of the first word of s.
func reader(t *testing.T, s string) *words.Reader {
	t.Helper()
	r, err := words.New(s)
	if err != (api.Err{}) {
		t.Fatalf("New(%q) = %+v", s, err)
	}
	return &r
}

// wantNext fails unless the next word of r begins at at and is a name word or a mark with that text, or neither.
func wantNext(t *testing.T, r *words.Reader, at int, name, mark string) {
	t.Helper()
	if r.At() != at || r.Name() != name || r.Mark() != mark {
		t.Errorf("the next word: at %d, %q, %q, not at %d, %q, %q", r.At(), r.Name(), r.Mark(), at, name, mark)
	}
}

// wantEnd fails unless the end of r tells want.
func wantEnd(t *testing.T, r *words.Reader, want api.Err) {
	t.Helper()
	for range 2 {
		if got := r.End(); got != want {
			t.Errorf("End() = %+v, not %+v", got, want)
		}
	}
}

// fault is ErrForm at at.
func fault(at int) api.Err { return api.Err{Code: api.ErrForm, At: at} }

func TestWordAfterWord(t *testing.T) {
	r := reader(t, ` a = "b c" ; 7 a//b`)
	wantNext(t, r, 1, "a", "")
	r.TakeName("a")
	wantNext(t, r, 3, "", "=")
	wantEnd(t, r, fault(3))
	r.TakeMark("=")
	wantNext(t, r, 5, "", "")
	if got := r.TakeText(); got != "b c" {
		t.Errorf("TakeText() = %q", got)
	}
	wantNext(t, r, 11, "", ";")
	if got := r.Take(true); got != ";" {
		t.Errorf("Take(true) = %q", got)
	}
	wantNext(t, r, 13, "7", "")
	if got := r.TakeNumber(7); got != 7 {
		t.Errorf("TakeNumber(7) = %d", got)
	}
	wantNext(t, r, 15, "a//b", "")
	if got := r.Take(r.Name() == "a//b"); got != "a//b" {
		t.Errorf("Take = %q", got)
	}
	wantNext(t, r, 19, "", "")
	wantEnd(t, r, api.Err{})
}

// Once a word did not fit, none fits any more, and the end tells the first one.
func TestWordThatDoesNotFit(t *testing.T) {
	takes := map[string]func(*words.Reader){
		"Take":       func(r *words.Reader) { r.Take(false) },
		"TakeName":   func(r *words.Reader) { r.TakeName("b") },
		"no name":    func(r *words.Reader) { r.TakeName("") },
		"TakeMark":   func(r *words.Reader) { r.TakeMark(";") },
		"no mark":    func(r *words.Reader) { r.TakeMark("") },
		"TakeText":   func(r *words.Reader) { r.TakeText() },
		"TakeNumber": func(r *words.Reader) { r.TakeNumber(4) },
	}
	for _, s := range []string{"x a x", "x = x", "x 5 x", "x 04 x", "x"} {
		for name, take := range takes {
			r := reader(t, s)
			r.Take(true)
			take(r)
			at := min(2, len(s))
			wantNext(t, r, at, "", "")
			for range 3 {
				if r.Take(true)+r.TakeText() != "" || r.TakeNumber(9) != 0 {
					t.Errorf("%q, %s: a word fits", s, name)
				}
				r.TakeName("a")
				r.TakeMark("=")
				r.TakeName("x")
			}
			wantNext(t, r, at, "", "")
			wantEnd(t, r, fault(at))
		}
	}
}

// A string is no name word, no mark and no number, and none of these is a string.
func TestKindsOfWords(t *testing.T) {
	for _, s := range []string{`"a"`, `"="`, `"7"`, `""`} {
		r := reader(t, s)
		wantNext(t, r, 0, "", "")
		for _, take := range []func(*words.Reader){
			func(r *words.Reader) { r.TakeName(strings.Trim(s, `"`)) },
			func(r *words.Reader) { r.TakeMark(strings.Trim(s, `"`)) },
			func(r *words.Reader) { r.TakeNumber(9) },
		} {
			r := reader(t, s)
			take(r)
			wantEnd(t, r, fault(0))
		}
		if got := r.TakeText(); got != strings.Trim(s, `"`) {
			t.Errorf("TakeText() = %q of %q", got, s)
		}
		wantEnd(t, r, api.Err{})
	}
	r := reader(t, "=")
	r.TakeName("=")
	wantEnd(t, r, fault(0))
	r = reader(t, "a")
	r.TakeMark("a")
	wantEnd(t, r, fault(0))
}

// The end of the text is never taken.
func TestEnd(t *testing.T) {
	for _, s := range []string{"", " # no word"} {
		wantEnd(t, reader(t, s), api.Err{})
		r := reader(t, s)
		if got := r.Take(true); got != "" {
			t.Errorf("Take(true) at the end = %q", got)
		}
		wantEnd(t, r, fault(len(s)))
	}
	var none words.Reader
	wantNext(t, &none, 0, "", "")
	wantEnd(t, &none, fault(0))
	none.Take(true)
	none.TakeName("")
	wantEnd(t, &none, fault(0))
}

func TestBadWords(t *testing.T) {
	for s, at := range map[string]int{"!": 0, "a !": 2, `a "`: 2, "= \x00 !": 2} {
		r, err := words.New(s)
		if err != fault(at) {
			t.Errorf("New(%q) = %+v", s, err)
		}
		wantNext(t, &r, 0, "", "")
	}
}
