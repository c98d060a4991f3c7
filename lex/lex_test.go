package lex_test

import (
	"fmt"
	"regexp"
	"slices"
	"strconv"
	"strings"
	"testing"

	"shipwright/api"
	"shipwright/lex"
)

func name(at int, text string) api.Word  { return api.Word{Kind: api.WName, At: at, Text: text} }
func str(at int, text string) api.Word   { return api.Word{Kind: api.WString, At: at, Text: text} }
func punct(at int, text string) api.Word { return api.Word{Kind: api.WPunct, At: at, Text: text} }
func end(at int) api.Word                { return api.Word{Kind: api.WEnd, At: at} }

// told tells words, and no more of a long list than a reader takes in.
func told(ws []api.Word) string {
	if len(ws) > 20 {
		return fmt.Sprintf("%d words", len(ws))
	}
	s := ""
	for _, w := range ws {
		s += fmt.Sprintf("%d@%d%.80q ", w.Kind, w.At, w.Text)
	}
	return s
}

// wantWords fails unless All(s) is want and no error.
func wantWords(t *testing.T, s string, want ...api.Word) {
	t.Helper()
	if got, err := lex.All(s); !slices.Equal(got, want) || err != (api.Err{}) {
		t.Errorf("P4.1: All(%.80q) = %s, %+v, not %s", s, told(got), err, told(want))
	}
}

// wantFault fails unless All(s) is nil and ErrForm at at.
func wantFault(t *testing.T, s string, at int) {
	t.Helper()
	if got, err := lex.All(s); got != nil || err != (api.Err{Code: api.ErrForm, At: at}) {
		t.Errorf("P4.1: All(%.80q) = %s, %+v, not ErrForm at %d", s, told(got), err, at)
	}
}

// allBytes returns every byte once, in order.
func allBytes() string {
	b := make([]byte, 256)
	for i := range b {
		b[i] = byte(i)
	}
	return string(b)
}

// byteSort is what one byte is by itself, told from lists written by hand.
func byteSort(c byte) string {
	const (
		blanks = " \t\n\r"
		names  = "abcdefghijklmnopqrstuvwxyzABCDEFGHIJKLMNOPQRSTUVWXYZ0123456789._-/"
		puncts = "{},;=()+^:$"
	)
	switch {
	case strings.IndexByte(blanks, c) >= 0:
		return "blank"
	case c == '#':
		return "remark"
	case strings.IndexByte(names, c) >= 0:
		return "name"
	case strings.IndexByte(puncts, c) >= 0:
		return "punct"
	}
	return "fault"
}

// standsForItself reports whether c stands for itself in a string: a byte that is seen, but no quote and no escape.
func standsForItself(c byte) bool {
	const plain = " !#$%&'()*+,-./0123456789:;<=>?@ABCDEFGHIJKLMNOPQRSTUVWXYZ[]^_`abcdefghijklmnopqrstuvwxyz{|}~"
	return strings.IndexByte(plain, c) >= 0
}

func TestNames(t *testing.T) {
	wantWords(t, "a", name(0, "a"), end(1))
	wantWords(t, "rule", name(0, "rule"), end(4))
	wantWords(t, "a b", name(0, "a"), name(2, "b"), end(3))
	wantWords(t, "rule a/b.c-D_9{", name(0, "rule"), name(5, "a/b.c-D_9"), punct(14, "{"), end(15))
	wantWords(t, "70 007 -1", name(0, "70"), name(3, "007"), name(7, "-1"), end(9))
	wantWords(t, "/ // . .. - _ a//b/", name(0, "/"), name(2, "//"), name(5, "."), name(7, ".."),
		name(10, "-"), name(12, "_"), name(14, "a//b/"), end(19))
	every := "abcdefghijklmnopqrstuvwxyzABCDEFGHIJKLMNOPQRSTUVWXYZ0123456789._-/"
	wantWords(t, every, name(0, every), end(len(every)))
}

func TestPuncts(t *testing.T) {
	const marks = "{},;=()+^:$"
	for i := range len(marks) {
		c := marks[i : i+1]
		wantWords(t, c, punct(0, c), end(1))
		wantWords(t, c+c, punct(0, c), punct(1, c), end(2))
		wantWords(t, " "+c+"a"+c+`"s"`+c, punct(1, c), name(2, "a"), punct(3, c), str(4, "s"), punct(7, c), end(8))
	}
	wantWords(t, marks, punct(0, "{"), punct(1, "}"), punct(2, ","), punct(3, ";"), punct(4, "="), punct(5, "("),
		punct(6, ")"), punct(7, "+"), punct(8, "^"), punct(9, ":"), punct(10, "$"), end(11))
}

func TestBlanks(t *testing.T) {
	wantWords(t, "", end(0))
	for _, s := range []string{" ", "\t", "\n", "\r", " \t\n\r", "\r\n\r\n", strings.Repeat(" ", 1000)} {
		wantWords(t, s, end(len(s)))
		wantWords(t, s+"a"+s+"b"+s, name(len(s), "a"), name(2*len(s)+1, "b"), end(3*len(s)+2))
		wantWords(t, `"a"`+s+`"b"`, str(0, "a"), str(3+len(s), "b"), end(6+len(s)))
	}
	for _, s := range []string{"\v", "\f", "\x00", "\x1c", "\x7f", "\x85", "\xa0", "\u00a0", "\u2028", "\ufeff"} {
		wantFault(t, s, 0)
		wantFault(t, " \n"+s, 2)
	}
}

func TestRemarks(t *testing.T) {
	wantWords(t, "#", end(1))
	wantWords(t, "##", end(2))
	wantWords(t, "# all", end(5))
	wantWords(t, "#\n", end(2))
	wantWords(t, "#\na", name(2, "a"), end(3))
	wantWords(t, "a#b", name(0, "a"), end(3))
	wantWords(t, "a#b\nc", name(0, "a"), name(4, "c"), end(5))
	wantWords(t, "a#b\n#\n-", name(0, "a"), name(6, "-"), end(7))
	wantWords(t, "a # x # y\n # z\n\n b # w", name(0, "a"), name(17, "b"), end(22))
	wantWords(t, "{#}\n}#{", punct(0, "{"), punct(4, "}"), end(7))
	wantWords(t, "#\ra\r b", end(6))
	wantWords(t, "#\v\f\u2028a\nb", name(8, "b"), end(9))
	wantWords(t, "# \"a\n\"b\"#\"", str(5, "b"), end(10))
	wantWords(t, "\"a\"#\"\n", str(0, "a"), end(6))
	wantWords(t, `"#"#"`, str(0, "#"), end(5))
	line := strings.ReplaceAll(allBytes(), "\n", "")
	wantWords(t, "#"+line+"\na", name(257, "a"), end(258))
	wantWords(t, "#"+line, end(256))
	wantFault(t, "#!\n!", 3)
}

func TestStrings(t *testing.T) {
	wantWords(t, `""`, str(0, ""), end(2))
	wantWords(t, `"a"`, str(0, "a"), end(3))
	wantWords(t, ` "a b" `, str(1, "a b"), end(7))
	wantWords(t, `"a b#"c`, str(0, "a b#"), name(6, "c"), end(7))
	wantWords(t, `"{},;=" "#" "'"`, str(0, "{},;="), str(8, "#"), str(12, "'"), end(15))
	wantWords(t, `"a" "b"`, str(0, "a"), str(4, "b"), end(7))
	for c := range 256 {
		s := `"` + string([]byte{byte(c)}) + `"`
		switch {
		case standsForItself(byte(c)):
			wantWords(t, s, str(0, s[1:2]), end(3))
			wantWords(t, `x"a`+s[1:2]+`b"`, name(0, "x"), str(1, "a"+s[1:2]+"b"), end(6))
		case c == '"':
			wantFault(t, s, 2)
		default:
			wantFault(t, s, 0)
			wantFault(t, `x "a`+s[1:2]+`b"`, 2)
		}
	}
}

func TestEscapes(t *testing.T) {
	for s, want := range map[string]string{
		`\n`: "\x0a", `\t`: "\x09", `\\`: "\x5c", `\"`: "\x22",
		`\x00`: "\x00", `\x09`: "\x09", `\x0a`: "\x0a", `\x10`: "\x10", `\x22`: "\x22", `\x41`: "A", `\x5c`: "\x5c",
		`\x7e`: "\x7e", `\x7f`: "\x7f", `\x80`: "\x80", `\xa0`: "\xa0", `\xff`: "\xff",
		`\n\t\\\"\x0a\xff\x7e`: "\n\t\\\"\n\xff~",
		`\\n`:                  `\n`, `\\\n`: "\\\n", `\\\\`: `\\`, `\\\"`: `\"`, `\"\"`: `""`, `\\x41`: `\x41`,
		`\x410`: "A0", `\x41\x42`: "AB", `\x5cn`: `\n`, `\nn`: "\nn", `\x22\x22`: `""`, `\xc3\xa4`: "\u00e4",
	} {
		wantWords(t, `"`+s+`"`, str(0, want), end(len(s)+2))
		wantWords(t, `- "a`+s+`z"z`, name(0, "-"), str(2, "a"+want+"z"), name(len(s)+6, "z"), end(len(s)+7))
	}
}

// Behind \ stand n, t, \ and ", or x and two of 0 to 9 and a to f: all other bytes there are wrong.
func TestEveryEscape(t *testing.T) {
	for c := range 256 {
		s := `"\` + string([]byte{byte(c)}) + `"`
		switch c {
		case 'n':
			wantWords(t, s, str(0, "\n"), end(4))
		case 't':
			wantWords(t, s, str(0, "\t"), end(4))
		case '\\', '"':
			wantWords(t, s, str(0, s[2:3]), end(4))
		default:
			wantFault(t, s, 0)
			wantFault(t, "a\n"+s, 2)
		}
	}
	const digits = "0123456789abcdef"
	for c := range 256 {
		b := string([]byte{byte(c)})
		i := strings.IndexByte(digits, byte(c))
		if i < 0 {
			wantFault(t, `"\x`+b+`0"`, 0)
			wantFault(t, `"\x0`+b+`"`, 0)
			continue
		}
		wantWords(t, `"\x`+b+`0"`, str(0, string([]byte{byte(16 * i)})), end(6))
		wantWords(t, `"\x0`+b+`"`, str(0, string([]byte{byte(i)})), end(6))
	}
	for hi := range 16 {
		for lo := range 16 {
			s := `"\x` + digits[hi:hi+1] + digits[lo:lo+1] + `"`
			wantWords(t, s, str(0, allBytes()[16*hi+lo:16*hi+lo+1]), end(6))
		}
	}
}

func TestWordsThatTouch(t *testing.T) {
	wantWords(t, `"a""b"`, str(0, "a"), str(3, "b"), end(6))
	wantWords(t, `a"b"c`, name(0, "a"), str(1, "b"), name(4, "c"), end(5))
	wantWords(t, `""""`, str(0, ""), str(2, ""), end(4))
	wantWords(t, `a=b;`, name(0, "a"), punct(1, "="), name(2, "b"), punct(3, ";"), end(4))
	wantWords(t, `a,b`, name(0, "a"), punct(1, ","), name(2, "b"), end(3))
	wantWords(t, `a"b"="c"d{}`, name(0, "a"), str(1, "b"), punct(4, "="), str(5, "c"), name(8, "d"),
		punct(9, "{"), punct(10, "}"), end(11))
	wantWords(t, "(a+b)^$c:d", punct(0, "("), name(1, "a"), punct(2, "+"), name(3, "b"), punct(4, ")"),
		punct(5, "^"), punct(6, "$"), name(7, "c"), punct(8, ":"), name(9, "d"), end(10))
	wantFault(t, "a!", 1)
	wantFault(t, "a\xc3\xa4", 1)
	wantFault(t, `a"b`, 1)
	wantFault(t, `"a"b"`, 4)
	wantFault(t, `="\q"`, 1)
}

func TestEveryByteAlone(t *testing.T) {
	for c := range 256 {
		s := string([]byte{byte(c)})
		switch byteSort(byte(c)) {
		case "blank":
			wantWords(t, s, end(1))
			wantWords(t, "a"+s+"b", name(0, "a"), name(2, "b"), end(3))
		case "remark":
			wantWords(t, s, end(1))
			wantWords(t, "a"+s+"b", name(0, "a"), end(3))
		case "name":
			wantWords(t, s, name(0, s), end(1))
			wantWords(t, "a"+s+"b", name(0, "a"+s+"b"), end(3))
		case "punct":
			wantWords(t, s, punct(0, s), end(1))
			wantWords(t, "a"+s+"b", name(0, "a"), punct(1, s), name(2, "b"), end(3))
		default:
			wantFault(t, s, 0)
			wantFault(t, "a"+s+"b", 1)
		}
	}
}

func TestBytesThatBeginNoWord(t *testing.T) {
	wantFault(t, "a !", 2)
	wantFault(t, "!", 0)
	wantFault(t, "*", 0)
	wantFault(t, "\\", 0)
	wantFault(t, `\n`, 0)
	wantFault(t, "'a'", 0)
	wantFault(t, "a \xc3\xa4", 2)
	wantFault(t, "\ufeffrule", 0)
	wantFault(t, "rule r { out a; } @", 18)
	wantFault(t, "# a\n\t?\n!", 5)
	wantFault(t, "a\x00b", 1)
	wantFault(t, "a [b]", 2)
}

func TestStringsThatDoNotEnd(t *testing.T) {
	wantFault(t, `"`, 0)
	wantFault(t, `"a`, 0)
	wantFault(t, `x "a`, 2)
	wantFault(t, `"a" "`, 4)
	wantFault(t, `"""`, 2)
	wantFault(t, `"\`, 0)
	wantFault(t, `"\"`, 0)
	wantFault(t, `"\\\"`, 0)
	wantFault(t, `"\\""`, 4)
	wantFault(t, `"\x`, 0)
	wantFault(t, `"\x1`, 0)
	wantFault(t, `"\x12`, 0)
	wantFault(t, `"\n`, 0)
	wantFault(t, "x \"a\nb\"", 2)
	wantFault(t, "\"a\r\n\"", 0)
	wantFault(t, `x "a # b`, 2)
}

func TestElementsThatAreNotValid(t *testing.T) {
	for _, s := range []string{
		`\q`, `\N`, `\T`, `\X41`, `\x`, `\x0`, `\x0G`, `\xAB`, `\xaB`, `\xAb`, `\x0x41`, `\x g1`, `\x-1`, `\x+1`, `\x_1`, `\x 1`, `\x1 `,
		`\'`, `\0`, `\012`, `\u0041`, `\U00000041`, `\r`, `\a`, `\b`, `\f`, `\v`, `\ `, "\\\n", `\/`,
		"\x00", "\x1f", "\n", "\t", "\r", "\x7f", "\x80", "\xff", "\u00e4", "a\u20ac",
	} {
		wantFault(t, `"`+s+`"`, 0)
		wantFault(t, `rule = "ok" "ok`+s+`ok" "ok"`, 12)
	}
}

// Of several wrong words, the first counts, also when the later one is wrong sooner than the first ends.
func TestFirstFaultCounts(t *testing.T) {
	wantFault(t, `a ! "b`, 2)
	wantFault(t, `a "b !`, 2)
	wantFault(t, `a "\q" ! "`, 2)
	wantFault(t, `! !`, 0)
	wantFault(t, `"a" "\q" "\q"`, 4)
}

func TestQuote(t *testing.T) {
	for s, want := range map[string]string{
		"": `""`, "a": `"a"`, "a b~": `"a b~"`, "#": `"#"`, "'": `"'"`, "{},;=()+^:$": `"{},;=()+^:$"`,
		`"`: `"\""`, `\`: `"\\"`, "\"\\": `"\"\\"`, `\n`: `"\\n"`, `""`: `"\"\""`,
		"\n\t\r": `"\n\t\x0d"`, "\n": `"\n"`, "\t": `"\t"`, "\r": `"\x0d"`,
		"\x00\x1f\x7f\xff": `"\x00\x1f\x7f\xff"`, "\x00": `"\x00"`, "\x0b1": `"\x0b1"`,
		"\u00e4": `"\xc3\xa4"`, "\u20ac": `"\xe2\x82\xac"`, "\ufffd": `"\xef\xbf\xbd"`, "a\xffz": `"a\xffz"`,
		"a\nb\n": `"a\nb\n"`,
	} {
		if got := lex.Quote(s); got != want {
			t.Errorf("P4.1: Quote(%q) = %q, not %q", s, got, want)
		}
	}
}

func TestQuoteOfEveryByte(t *testing.T) {
	for c := range 256 {
		s := string([]byte{byte(c)})
		want := fmt.Sprintf(`"\x%02x"`, c)
		switch {
		case standsForItself(byte(c)):
			want = `"` + s + `"`
		case c == '\n':
			want = `"\n"`
		case c == '\t':
			want = `"\t"`
		case c == '"', c == '\\':
			want = `"\` + s + `"`
		}
		if got := lex.Quote(s); got != want {
			t.Errorf("P4.1: Quote(%q) = %q, not %q", s, got, want)
		}
		if got := lex.Quote("a" + s + s); got != `"a`+want[1:len(want)-1]+want[1:] {
			t.Errorf("P4.1: Quote(%q) = %q", "a"+s+s, got)
		}
		wantWords(t, want, str(0, s), end(len(want)))
	}
}

func TestQuotedComesBack(t *testing.T) {
	for a := range 256 {
		for b := range 256 {
			s := string([]byte{byte(a), byte(b)})
			q := lex.Quote(s)
			wantWords(t, q+q, str(0, s), str(len(q), s), end(2*len(q)))
			if t.Failed() {
				return
			}
		}
	}
	all := lex.Quote(allBytes())
	wantWords(t, all, str(0, allBytes()), end(len(all)))
}

// grammar is the chapter's grammar of words as patterns, each with the kind of its words (0: none, a blank).
type grammar struct {
	kind    int
	pattern *regexp.Regexp
}

func grammars() []grammar {
	return []grammar{
		{0, regexp.MustCompile(`^[ \t\n\r]`)},
		{0, regexp.MustCompile(`^#[^\n]*`)},
		{api.WName, regexp.MustCompile(`^[a-zA-Z0-9._/-]+`)},
		{api.WPunct, regexp.MustCompile(`^[{},;=()+^:$]`)},
		{api.WString, regexp.MustCompile(`^"([ !#-\[\]-~]|\\[nt\\"]|\\x[0-9a-f][0-9a-f])*"`)},
	}
}

// wordsBy returns what All should return, by the patterns gs.
func wordsBy(gs []grammar, s string) ([]api.Word, api.Err) {
	var words []api.Word
next:
	for at := 0; at < len(s); {
		for _, g := range gs {
			text := g.pattern.FindString(s[at:])
			if text == "" {
				continue
			}
			if g.kind != 0 {
				words = append(words, api.Word{Kind: g.kind, At: at, Text: text})
			}
			if g.kind == api.WString {
				words[len(words)-1].Text, _ = strconv.Unquote(text)
			}
			at += len(text)
			continue next
		}
		return nil, api.Err{Code: api.ErrForm, At: at}
	}
	return append(words, end(len(s))), api.Err{}
}

// All short texts of some bytes are held against the patterns.
func TestAllShortTexts(t *testing.T) {
	gs := grammars()
	for _, c := range []struct {
		alphabet string
		most     int
	}{
		{"a/ \n#\"\\;!", 5},
		{"\"\\x0afn", 6},
		{"\"\\ntx#\n\xff", 5},
	} {
		var grow func(s string)
		grow = func(s string) {
			want, wantErr := wordsBy(gs, s)
			if got, err := lex.All(s); !slices.Equal(got, want) || err != wantErr {
				t.Fatalf("P4.1: All(%q) = %v, %+v, not %v, %+v", s, got, err, want, wantErr)
			}
			if len(s) == c.most {
				return
			}
			for i := range len(c.alphabet) {
				grow(s + c.alphabet[i:i+1])
			}
		}
		grow("")
	}
}

func TestRuleFile(t *testing.T) {
	const text = "# what is made\nrule bin/app {\r\n\tin a.c, b;\n\tout app; # one\n\tapp = replace \"\\n\" \"x\" b;\n}\n"
	wantWords(t, text,
		name(15, "rule"), name(20, "bin/app"), punct(28, "{"),
		name(32, "in"), name(35, "a.c"), punct(38, ","), name(40, "b"), punct(41, ";"),
		name(44, "out"), name(48, "app"), punct(51, ";"),
		name(60, "app"), punct(64, "="), name(66, "replace"), str(74, "\n"), str(79, "x"), name(83, "b"), punct(84, ";"),
		punct(86, "}"), end(88))
}

func TestResultsAreNew(t *testing.T) {
	first, _ := lex.All(`a "b" {`)
	second, _ := lex.All(`a "b" {`)
	for i := range first {
		first[i] = api.Word{Kind: 9, At: 9, Text: "9"}
	}
	_ = append(first[:1], end(7), end(8))
	want := []api.Word{name(0, "a"), str(2, "b"), punct(6, "{"), end(7)}
	if !slices.Equal(second, want) {
		t.Errorf("P0.3: All = %v after another result was changed", second)
	}
	wantWords(t, `a "b" {`, want...)
}

func TestHugeTexts(t *testing.T) {
	const n = 1 << 20
	long := strings.Repeat("a", n)
	wantWords(t, long, name(0, long), end(n))
	wantWords(t, "#"+long, end(n+1))
	wantWords(t, strings.Repeat(" ", n), end(n))
	wantWords(t, strings.Repeat("#\n", n), end(2*n))
	wantWords(t, `"`+long+`"`, str(0, long), end(n+2))
	wantFault(t, `"`+long, 0)
	wantFault(t, `"`+long+"\n\"", 0)
	wantFault(t, long+"!", n)
	if got, err := lex.All(strings.Repeat("{", n)); len(got) != n+1 || got[n] != end(n) || err != (api.Err{}) {
		t.Errorf("P4.1: All of many words: %d, %+v", len(got), err)
	}
	if got, err := lex.All(strings.Repeat(`""`, n) + `"`); got != nil || err != (api.Err{Code: api.ErrForm, At: 2 * n}) {
		t.Errorf("P4.1: All of many strings: %d, %+v", len(got), err)
	}
	many := strings.Repeat(allBytes(), n/256)
	q := lex.Quote(many)
	wantWords(t, q, str(0, many), end(len(q)))
}
