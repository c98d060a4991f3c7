package path_test

import (
	"slices"
	"strings"
	"testing"

	"shipwright/api"
	"shipwright/path"
)

const letters = "abcdefghijklmnopqrstuvwxyzABCDEFGHIJKLMNOPQRSTUVWXYZ0123456789._-"

// wordsOf calls f with every string of at most most bytes of the alphabet.
func wordsOf(alphabet string, most int, f func(string)) {
	var grow func(s string)
	grow = func(s string) {
		f(s)
		if len(s) == most {
			return
		}
		for i := range len(alphabet) {
			grow(s + alphabet[i:i+1])
		}
	}
	grow("")
}

func TestMayOrdinary(t *testing.T) {
	for _, s := range []string{"a", "Z9._-", "a/b/c", "src/main.c", "lib-1.2/x_y", letters[:40], letters[25:]} {
		if !path.May(s) {
			t.Errorf("P1.1: May(%q) = false", s)
		}
	}
}

func TestMayLength(t *testing.T) {
	long := strings.Repeat("x", api.MaxName)
	for _, s := range []string{"x", "-", long, strings.Repeat("a/", 19) + "bc"} {
		if !path.May(s) {
			t.Errorf("P1.1: May(%q) = false", s)
		}
	}
	for _, s := range []string{"", long + "x", strings.Repeat("a/", 20) + "b", strings.Repeat("x", 1<<20)} {
		if path.May(s) {
			t.Errorf("P1.1: May of %d bytes = true", len(s))
		}
	}
}

func TestMayParts(t *testing.T) {
	for _, s := range []string{"...", ".a", "a.", "..a", "a..", "a/...", "a/.b", "....", "-", "_"} {
		if !path.May(s) {
			t.Errorf("P1.1: May(%q) = false", s)
		}
	}
	for _, s := range []string{"/", "//", "/a", "a/", "a//b", ".", "..", "./a", "a/.", "a/./b", "../a", "a/..", "a/../b"} {
		if path.May(s) {
			t.Errorf("P1.1: May(%q) = true", s)
		}
	}
}

func TestMayBytes(t *testing.T) {
	for c := range 256 {
		one := string([]byte{byte(c)})
		inside := strings.Contains(letters, one)
		if got, want := path.May(one), inside && one != "."; got != want {
			t.Errorf("P1.1: May(%q) = %v", one, got)
		}
		for _, s := range []string{"a" + one + "b", "x/" + one + "a", "ab/c" + one} {
			want := inside || (one == "/" && s == "a/b")
			if got := path.May(s); got != want {
				t.Errorf("P1.1: May(%q) = %v", s, got)
			}
		}
	}
}

func TestMayClauses(t *testing.T) {
	for _, w := range []string{"rule", "in", "out", "after"} {
		if path.May(w) {
			t.Errorf("P1.1: May(%q) = true", w)
		}
		for _, s := range []string{w + "/a", "a/" + w, w + "/" + w, w + "s", w[1:], strings.ToUpper(w), "." + w} {
			if !path.May(s) {
				t.Errorf("P1.1: May(%q) = false", s)
			}
		}
	}
	if !path.May("rules/in") || !path.May("copy") || !path.May("need") {
		t.Error("P1.1: only four words are no names")
	}
}

func TestJoin(t *testing.T) {
	for _, c := range []struct {
		parts []string
		want  string
	}{
		{nil, ""},
		{[]string{}, ""},
		{[]string{""}, ""},
		{[]string{"", ""}, ""},
		{[]string{"a"}, "a"},
		{[]string{"a", "b"}, "a/b"},
		{[]string{"", "a", "", "", "b", ""}, "a/b"},
		{[]string{"a", "", "b", "c/d", ""}, "a/b/c/d"},
		{[]string{".", "..", "a b", "\xff"}, "./../a b/\xff"},
	} {
		if got := path.Join(c.parts...); got != c.want {
			t.Errorf("P1.1: Join(%q) = %q, not %q", c.parts, got, c.want)
		}
	}
}

// Each argument is one part: the slashes inside it stay as they are.
func TestJoinKeepsSlashes(t *testing.T) {
	if got := path.Join("a/", "/b", "/"); got != "a///b//" {
		t.Errorf("P1.1: Join = %q", got)
	}
}

func TestJoinLeavesItsArgument(t *testing.T) {
	room := []string{"", "a", "", "b", "spare", "more"}
	want := slices.Clone(room)
	if got := path.Join(room[:4]...); got != "a/b" {
		t.Errorf("P1.1: Join = %q", got)
	}
	if !slices.Equal(room, want) {
		t.Errorf("P0.3: Join changed its argument to %q", room)
	}
}

func TestParts(t *testing.T) {
	for _, c := range []struct {
		s    string
		want []string
	}{
		{"", []string{""}},
		{"a", []string{"a"}},
		{"/", []string{"", ""}},
		{"a/b/c", []string{"a", "b", "c"}},
		{"a//b/", []string{"a", "", "b", ""}},
		{"/./..", []string{"", ".", ".."}},
		{"a b/\xff\x00", []string{"a b", "\xff\x00"}},
		{"\xc3\xa4/\\", []string{"\xc3\xa4", "\\"}},
	} {
		if got := path.Parts(c.s); !slices.Equal(got, c.want) {
			t.Errorf("P1.1: Parts(%q) = %q, not %q", c.s, got, c.want)
		}
	}
}

func TestPartsAreNew(t *testing.T) {
	first := path.Parts("a/b")
	first[0] = "x"
	_ = append(first[:1], "y")
	if got := path.Parts("a/b"); !slices.Equal(got, []string{"a", "b"}) {
		t.Errorf("P0.3: Parts = %q after an earlier result was changed", got)
	}
}

func TestNorm(t *testing.T) {
	long := strings.Repeat("y", api.MaxName)
	for s, want := range map[string]string{
		"a":                                   "a",
		"a/b":                                 "a/b",
		"/a//b/":                              "a/b",
		"./a/./b":                             "a/b",
		"a/../b":                              "b",
		"a/b/../../c":                         "c",
		"a/b/../c/../d":                       "a/d",
		"a//.././b":                           "b",
		"a/./../b":                            "b",
		".../..a/.b":                          ".../..a/.b",
		".../../b":                            "b",
		"in/out":                              "in/out",
		"in/../x":                             "x",
		"x/in":                                "x/in",
		"a b/../c":                            "c",
		"x/../" + long:                        long,
		strings.Repeat("/", 1000) + "a":       "a",
		strings.Repeat("x/../", 1000) + long:  long,
		long + long + "/../a":                 "a",
		strings.Repeat("./", 50) + "p/q/././": "p/q",
	} {
		if got, ok := path.Norm(s); got != want || !ok {
			t.Errorf("P1.1: Norm(%q) = %q, %v", s, got, ok)
		}
	}
}

func TestNormWrong(t *testing.T) {
	long := strings.Repeat("y", api.MaxName)
	for _, s := range []string{
		"", ".", "..", "/", "//", "./.", "a/..", "/..", "./..", "//../a", "../a", "a/../..", "a/../../b", "a/../../b/c",
		"in", "/in", "rule/", "./out", "after/.", "x/../in", "after/../after",
		"a b", "a/b:c", "\xff", "a/\xc3\xa4", "a\\b",
		long + "y", "a/" + long, long + "/../..",
	} {
		if got, ok := path.Norm(s); got != "" || ok {
			t.Errorf("P1.1: Norm(%q) = %q, %v", s, got, ok)
		}
	}
}

// plainNorm removes one part, or one pair of parts, at a time, from the left, as the chapter tells it.
func plainNorm(s string) (string, bool) {
	ps := slices.DeleteFunc(path.Parts(s), func(p string) bool { return p == "" || p == "." })
	for {
		i := slices.Index(ps, "..")
		if i < 0 {
			break
		}
		if i == 0 {
			return "", false
		}
		ps = slices.Delete(ps, i-1, i+1)
	}
	name := strings.Join(ps, "/")
	return name, path.May(name)
}

func TestNormOfAllShortStrings(t *testing.T) {
	wordsOf("a./ ", 8, func(s string) {
		want, ok := plainNorm(s)
		if !ok {
			want = ""
		}
		if got, good := path.Norm(s); got != want || good != ok {
			t.Fatalf("P1.1: Norm(%q) = %q, %v, not %q, %v", s, got, good, want, ok)
		}
	})
}

func TestTogether(t *testing.T) {
	wordsOf("a./", 8, func(s string) {
		if got := strings.Join(path.Parts(s), "/"); got != s {
			t.Fatalf("P1.1: the parts of %q are those of %q", s, got)
		}
		if !path.May(s) {
			return
		}
		if got := path.Join(path.Parts(s)...); got != s {
			t.Fatalf("P1.1: Join of the parts of %q = %q", s, got)
		}
		if got, ok := path.Norm(s); got != s || !ok {
			t.Fatalf("P1.1: Norm of the name %q = %q, %v", s, got, ok)
		}
	})
}

func TestHugeArguments(t *testing.T) {
	long := strings.Repeat("../a/./", 1<<18)
	if _, ok := path.Norm(long); ok || path.May(long) {
		t.Error("P0.1: a huge string is no name")
	}
	if got, ok := path.Norm(strings.Repeat("a/", 1<<18) + strings.Repeat("../", 1<<18) + "b"); got != "b" || !ok {
		t.Errorf("P1.1: Norm of a huge string = %q, %v", got, ok)
	}
	if got := len(path.Parts(strings.Repeat("/", 1<<20))); got != 1<<20+1 {
		t.Errorf("P1.1: Parts of a huge string: %d", got)
	}
	if got := path.Join(make([]string, 1<<20)...); got != "" {
		t.Errorf("P1.1: Join of many empty parts: %d bytes", len(got))
	}
}
