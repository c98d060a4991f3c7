package mint_test

import (
	"math"
	"slices"
	"strconv"
	"strings"
	"testing"

	"shipwright/api"
	"shipwright/mint"
)

// wordsOf calls f with every string of at most most bytes of the alphabet.
func wordsOf(alphabet string, most int, f func(string)) {
	var grow func(s string)
	grow = func(s string) {
		f(s)
		if len(s) == most {
			return
		}
		for i := range len(alphabet) {
			grow(s + alphabet[i:i+1])
		}
	}
	grow("")
}

// keyed is a list of parts and the string that Put makes of it, written by hand.
type keyed struct {
	parts []string
	key   string
}

func keyedLists() []keyed {
	digits := "0123456789"
	hundred := strings.Repeat(digits, 10)
	return []keyed{
		{nil, ""},
		{[]string{""}, "0:"},
		{[]string{"", ""}, "0:0:"},
		{[]string{"a"}, "1:a"},
		{[]string{"a", "bc", ""}, "1:a2:bc0:"},
		{[]string{"", "a", "", "b"}, "0:1:a0:1:b"},
		{[]string{digits[:9], digits}, "9:01234567810:0123456789"},
		{[]string{hundred[:99], hundred}, "99:" + hundred[:99] + "100:" + hundred},
		{[]string{"1:a"}, "3:1:a"},
		{[]string{"3:1:a", "0:"}, "5:3:1:a2:0:"},
		{[]string{"1", ":", "2:", ":3"}, "1:11::2:2:2::3"},
		{[]string{"12"}, "2:12"},
		{[]string{"1:a2:bc0:"}, "9:1:a2:bc0:"},
		{[]string{"\x00", "\xff", "\n"}, "1:\x001:\xff1:\n"},
		{[]string{"\u00e4", "\u20ac"}, "2:\u00e43:\u20ac"},
		{[]string{"-", "+", " "}, "1:-1:+1: "},
	}
}

func TestNumber(t *testing.T) {
	for n, want := range map[int]string{
		0: "0", 1: "1", 7: "7", 9: "9", 10: "10", 99: "99", 100: "100", 2000: "2000",
		1 << 40: "1099511627776", math.MaxInt: "9223372036854775807",
		-1: "0", -7: "0", -2000: "0", math.MinInt + 1: "0", math.MinInt: "0",
	} {
		if got := mint.Number(n); got != want {
			t.Errorf("P2.1: Number(%d) = %q, not %q", n, got, want)
		}
	}
}

func TestGetNumber(t *testing.T) {
	for _, c := range []struct {
		s    string
		most int
		want int
	}{
		{"0", 0, 0}, {"0", 1, 0}, {"0", math.MaxInt, 0},
		{"7", 7, 7}, {"7", 8, 7}, {"10", 10, 10}, {"1999", 2000, 1999}, {"2000", 2000, 2000},
		{"1000", math.MaxInt, 1000},
		{"9223372036854775806", math.MaxInt - 1, math.MaxInt - 1},
		{"9223372036854775807", math.MaxInt, math.MaxInt},
	} {
		if got, ok := mint.GetNumber(c.s, c.most); got != c.want || !ok {
			t.Errorf("P2.1: GetNumber(%q, %d) = %d, %v", c.s, c.most, got, ok)
		}
	}
}

func TestGetNumberBeyondMost(t *testing.T) {
	for _, c := range []struct {
		s    string
		most int
	}{
		{"1", 0}, {"8", 7}, {"10", 9}, {"2001", 2000}, {"99999", 2000},
		{"0", -1}, {"0", math.MinInt}, {"1", -1}, {"-1", -1}, {"-2", -1}, {"-1", 7},
		{"-9223372036854775808", math.MinInt},
		{"9223372036854775807", math.MaxInt - 1},
		{"9223372036854775808", math.MaxInt},
		{"18446744073709551615", math.MaxInt},
		{"18446744073709551616", math.MaxInt},
		{"18446744073709551623", math.MaxInt},
		{"99999999999999999999", math.MaxInt},
	} {
		if got, ok := mint.GetNumber(c.s, c.most); got != 0 || ok {
			t.Errorf("P2.1: GetNumber(%q, %d) = %d, %v", c.s, c.most, got, ok)
		}
	}
}

func TestGetNumberOfWrongTexts(t *testing.T) {
	for _, s := range []string{
		"", " ", "00", "07", "007", "0000000000000000000000007", "+7", "+0", "-0", "-7", "--7", "+", "-",
		" 7", "7 ", "7\n", "\t7", "7\x00", "7:", ":7", "1_0", "1,0", "1.0", "7.", "1e1", "0x7", "0b1", "0o7", "a", "7a", "a7",
		"\xff", "\u0667", "\uff17", "\u00b2", "NaN", "Inf",
	} {
		if got, ok := mint.GetNumber(s, 1000); got != 0 || ok {
			t.Errorf("P2.1: GetNumber(%q) = %d, %v", s, got, ok)
		}
	}
}

func TestNumbersComeBack(t *testing.T) {
	for n := range 3000 {
		s := mint.Number(n)
		if got, ok := mint.GetNumber(s, n); got != n || !ok {
			t.Fatalf("P2.1: GetNumber(%q, %d) = %d, %v", s, n, got, ok)
		}
		if got, ok := mint.GetNumber(s, n-1); got != 0 || ok {
			t.Fatalf("P2.1: GetNumber(%q, %d) = %d, %v", s, n-1, got, ok)
		}
	}
}

// All short strings are held against the numbers one by one, as the chapter tells it.
func TestGetNumberOfAllShortStrings(t *testing.T) {
	const most = 99
	wordsOf("0189+-_ :a", 4, func(s string) {
		want, found := 0, false
		for n := range most + 1 {
			if strconv.Itoa(n) == s {
				want, found = n, true
			}
		}
		if got, ok := mint.GetNumber(s, most); got != want || ok != found {
			t.Fatalf("P2.1: GetNumber(%q, %d) = %d, %v", s, most, got, ok)
		}
	})
}

func TestPut(t *testing.T) {
	for _, c := range keyedLists() {
		if got := mint.Put(c.parts...); got != c.key {
			t.Errorf("P2.1: Put(%q) = %q, not %q", c.parts, got, c.key)
		}
	}
	if got := mint.Put([]string{}...); got != "" {
		t.Errorf("P2.1: Put of no part = %q", got)
	}
}

func TestGet(t *testing.T) {
	for _, c := range keyedLists() {
		if got, ok := mint.Get(c.key); !slices.Equal(got, c.parts) || !ok {
			t.Errorf("P2.1: Get(%q) = %q, %v, not %q", c.key, got, ok, c.parts)
		}
	}
}

func TestGetOfWrongTexts(t *testing.T) {
	for _, s := range []string{
		":", "::", ":a", "a", "a:", "0", "1", "12", "1:", "2:a", "10:a",
		"00:", "01:a", "0:x", "1:ab", "1:a1", "1:a:", "1:a1:", "1:a2:b", "1:a01:b", "0::", "0:0", "0:a:",
		"+1:a", "-1:", "-0:", "-1:a", " 1:a", "1 :a", "1:a ", "1:a\n", "1_0:0123456789", "0x1:a", "1.0:a", "1,a", "1;a",
		"\u0661:a", "\xff:a", "1:\u00e4",
		"9223372036854775807:a", "9223372036854775808:a", "18446744073709551616:", "18446744073709551617:a", "9999999999999999999:a",
		"1:a" + "9223372036854775807:b",
	} {
		if got, ok := mint.Get(s); got != nil || ok {
			t.Errorf("P2.1: Get(%q) = %q, %v", s, got, ok)
		}
	}
}

// All lists with short keys, and all short strings: Put takes different lists to different
// strings, Get takes each of these back, and there is no other string that Get takes.
func TestGetOfAllShortStrings(t *testing.T) {
	const alphabet, most = "012:a", 8
	lists := map[string][]string{}
	var grow func(parts []string)
	grow = func(parts []string) {
		key := mint.Put(parts...)
		if len(key) > most {
			return
		}
		if other, ok := lists[key]; ok {
			t.Fatalf("P2.1: Put of %q and of %q = %q", other, parts, key)
		}
		lists[key] = slices.Clone(parts)
		wordsOf(alphabet, most-len(key), func(s string) {
			grow(append(slices.Clone(parts), s))
		})
	}
	grow(nil)
	if len(lists) < 1000 {
		t.Fatalf("only %d lists", len(lists))
	}
	wordsOf(alphabet, most, func(s string) {
		want, found := lists[s]
		if got, ok := mint.Get(s); !slices.Equal(got, want) || ok != found {
			t.Fatalf("P2.1: Get(%q) = %q, %v, not %q, %v", s, got, ok, want, found)
		}
	})
}

func TestVals(t *testing.T) {
	for _, c := range []struct {
		vs   []api.Val
		want string
	}{
		{nil, ""},
		{[]api.Val{}, ""},
		{[]api.Val{{}}, "1:-"},
		{[]api.Val{{Ok: true}}, "1:+"},
		{[]api.Val{{B: "lost"}}, "1:-"},
		{[]api.Val{{Ok: true, B: "x"}, {}, {Ok: true}}, "2:+x1:-1:+"},
		{[]api.Val{{Ok: true, B: "-"}, {Ok: true, B: "+"}}, "2:+-2:++"},
		{[]api.Val{{Ok: true, B: "1:-"}, {Ok: true, B: "\xff\x00"}}, "4:+1:-3:+\xff\x00"},
		{[]api.Val{{Ok: true, B: "123456789"}, {B: "123456789"}}, "10:+1234567891:-"},
	} {
		if got := mint.Vals(c.vs...); got != c.want {
			t.Errorf("P2.1: Vals(%+v) = %q, not %q", c.vs, got, c.want)
		}
	}
}

// Values that differ make different strings, except that a failed value is one, whatever its B.
func TestValsTellApart(t *testing.T) {
	some := []api.Val{{}, {Ok: true}}
	for _, b := range []string{"-", "+", "1:-", "1:+", "x", "+x", "-x"} {
		some = append(some, api.Val{Ok: true, B: b})
	}
	var lists [][]api.Val
	for _, v := range some {
		lists = append(lists, []api.Val{v})
		for _, w := range some {
			lists = append(lists, []api.Val{v, w})
		}
	}
	made := map[string][]api.Val{}
	for _, vs := range lists {
		key := mint.Vals(vs...)
		if other, ok := made[key]; ok {
			t.Errorf("P2.1: Vals of %+v and of %+v = %q", other, vs, key)
		}
		made[key] = vs
	}
}

func TestArgumentsStay(t *testing.T) {
	parts := []string{"a", "", "1:b", "spare", "more"}
	wantParts := slices.Clone(parts)
	if got := mint.Put(parts[:3]...); got != "1:a0:3:1:b" {
		t.Errorf("P2.1: Put = %q", got)
	}
	if !slices.Equal(parts, wantParts) {
		t.Errorf("P0.3: Put changed its argument to %q", parts)
	}
	vals := []api.Val{{Ok: true, B: "x"}, {B: "lost"}, {Ok: true, B: "spare"}}
	wantVals := slices.Clone(vals)
	if got := mint.Vals(vals[:2]...); got != "2:+x1:-" {
		t.Errorf("P2.1: Vals = %q", got)
	}
	if !slices.Equal(vals, wantVals) {
		t.Errorf("P0.3: Vals changed its argument to %+v", vals)
	}
}

func TestResultsAreNew(t *testing.T) {
	first, _ := mint.Get("1:a1:b")
	second, _ := mint.Get("1:a1:b")
	first[0] = "x"
	_ = append(first[:1], "y")
	third, _ := mint.Get("1:a1:b")
	for _, got := range [][]string{second, third} {
		if !slices.Equal(got, []string{"a", "b"}) {
			t.Errorf("P0.3: Get = %q after another result was changed", got)
		}
	}
}

func TestHugeArguments(t *testing.T) {
	long := strings.Repeat("7", 1<<20)
	if got, ok := mint.GetNumber(long, math.MaxInt); got != 0 || ok {
		t.Errorf("P2.1: GetNumber of a huge string = %d, %v", got, ok)
	}
	if got, ok := mint.GetNumber(strings.Repeat("0", 1<<20), math.MaxInt); got != 0 || ok {
		t.Errorf("P2.1: GetNumber of many zeros = %d, %v", got, ok)
	}
	for _, s := range []string{long, long + ":", strings.Repeat(":", 1<<20), strings.Repeat("1:a", 1<<18) + "1:"} {
		if got, ok := mint.Get(s); got != nil || ok {
			t.Errorf("P2.1: Get of a huge string: %d parts, %v", len(got), ok)
		}
	}
	key := mint.Put(long, "", long)
	if got, ok := mint.Get(key); !slices.Equal(got, []string{long, "", long}) || !ok {
		t.Errorf("P2.1: Get of huge parts: %d parts, %v", len(got), ok)
	}
	many := make([]string, 1<<20)
	if got, ok := mint.Get(mint.Put(many...)); !slices.Equal(got, many) || !ok {
		t.Errorf("P2.1: Get of many empty parts: %d parts, %v", len(got), ok)
	}
	if got := mint.Vals(make([]api.Val, 1<<18)...); got != strings.Repeat("1:-", 1<<18) {
		t.Errorf("P2.1: Vals of many failed values: %d bytes", len(got))
	}
}
