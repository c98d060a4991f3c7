// Package words goes through the words of a text (doc/04-lex.md), for the packages that know a grammar of such words.
package words

import (
	"shipwright/api"
	"shipwright/lex"
	"shipwright/mint"
)

// Reader stands ahead of one of the words of a text. Once a word did not fit,
// no word fits any more: the reader stays there, so that End tells that place.
type Reader struct {
	words  []api.Word // the last one is the end of the text
	next   int
	failed bool
}

// New returns a reader ahead of the first word of s, or the error of lex.All.
func New(s string) (Reader, api.Err) {
	words, err := lex.All(s)
	return Reader{words: words}, err
}

// At returns where the next word begins.
func (r *Reader) At() int {
	return r.word().At
}

// Name returns the text of the next word if it is a name word, and "" otherwise.
func (r *Reader) Name() string {
	return r.textOf(api.WName)
}

// Mark returns the next word if it is a punctuation mark, and "" otherwise.
func (r *Reader) Mark() string {
	return r.textOf(api.WPunct)
}

// Take returns the text of the next word and goes past it if that word fits, and fails otherwise.
func (r *Reader) Take(fits bool) string {
	if r.failed || r.is(api.WEnd) || !fits {
		r.failed = true
		return ""
	}
	text := r.word().Text
	r.next++
	return text
}

// TakeName takes the name word name.
func (r *Reader) TakeName(name string) {
	r.Take(r.is(api.WName) && r.Name() == name)
}

// TakeMark takes the punctuation mark c.
func (r *Reader) TakeMark(c string) {
	r.Take(r.is(api.WPunct) && r.Mark() == c)
}

// TakeText takes a string, and returns what it stands for.
func (r *Reader) TakeText() string {
	return r.Take(r.is(api.WString))
}

// TakeNumber takes a number of no more than most.
func (r *Reader) TakeNumber(most int) int {
	n, ok := mint.GetNumber(r.Name(), most)
	r.Take(ok)
	return n
}

// End returns no error if every word was taken, and otherwise the place of the first that was not.
func (r *Reader) End() api.Err {
	if r.is(api.WEnd) {
		return api.Err{}
	}
	return api.Err{Code: api.ErrForm, At: r.At()}
}

// word returns the next word, whether it fits or not.
func (r *Reader) word() api.Word {
	if r.next >= len(r.words) {
		return api.Word{}
	}
	return r.words[r.next]
}

// is reports whether the next word is of kind and may still fit.
func (r *Reader) is(kind int) bool {
	return !r.failed && r.word().Kind == kind
}

// textOf returns the text of the next word if it is of kind, and "" otherwise.
func (r *Reader) textOf(kind int) string {
	if !r.is(kind) {
		return ""
	}
	return r.word().Text
}
