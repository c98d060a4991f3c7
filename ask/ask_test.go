package ask_test

import (
	"fmt"
	"reflect"
	"slices"
	"strconv"
	"strings"
	"testing"

	"shipwright/api"
	"shipwright/ask"
)

// file, rule, named, op, call, far and let make queries with At 0.
func file(name string) api.Query {
	return api.Query{Kind: api.QLabel, Label: api.Label{Name: name}}
}

func rule(name string) api.Query {
	return api.Query{Kind: api.QLabel, Label: api.Label{Rule: true, Name: name}}
}

func named(name string) api.Query { return api.Query{Kind: api.QVar, Name: name} }

func op(kind int, a, b api.Query) api.Query {
	return api.Query{Kind: kind, Kids: []api.Query{a, b}}
}

func call(kind int, name string, kids ...api.Query) api.Query {
	return api.Query{Kind: kind, Name: name, Kids: kids}
}

func far(n int, of api.Query) api.Query {
	return api.Query{Kind: api.QDeps, N: n, Kids: []api.Query{of}}
}

func let(name string, is, of api.Query) api.Query {
	return api.Query{Kind: api.QLet, Name: name, Kids: []api.Query{is, of}}
}

func all() api.Query { return api.Query{Kind: api.QWhole} }

// at is q with At n.
func at(n int, q api.Query) api.Query {
	q.At = n
	return q
}

// bare is q with nil for each list of Kids without elements, for the two are equivalent, and in new memory.
func bare(q api.Query) api.Query {
	var kids []api.Query
	for _, k := range q.Kids {
		kids = append(kids, bare(k))
	}
	q.Kids = kids
	return q
}

// placeless is bare q with At 0 in each node.
func placeless(q api.Query) api.Query {
	q = bare(q)
	q.At = 0
	for i, k := range q.Kids {
		q.Kids[i] = placeless(k)
	}
	return q
}

// show tells a query on one line, or the beginning of it.
func show(q api.Query) string { return fmt.Sprintf("%.500s", fmt.Sprintf("%+v", q)) }

// parsed is the query that s denotes.
func parsed(t *testing.T, s string) api.Query {
	t.Helper()
	q, err := ask.Parse(s)
	if err != (api.Err{}) {
		t.Errorf("P17.1: Parse(%q) = %+v", s, err)
	}
	return q
}

// wantQuery fails unless Parse(s) is want, with its places, and no error.
func wantQuery(t *testing.T, s string, want api.Query) {
	t.Helper()
	got, err := ask.Parse(s)
	if err != (api.Err{}) || !reflect.DeepEqual(bare(got), bare(want)) {
		t.Errorf("P17.1: Parse(%q) = %s, %+v, not %s", s, show(got), err, show(want))
	}
}

// wantSame fails unless Parse(s) is want, but for the places, and no error.
func wantSame(t *testing.T, s string, want api.Query) {
	t.Helper()
	got, err := ask.Parse(s)
	if err != (api.Err{}) || !reflect.DeepEqual(placeless(got), placeless(want)) {
		t.Errorf("P17.1: Parse(%q) = %s, %+v, not %s", s, show(got), err, show(want))
	}
}

// wantErr fails unless Parse(s) is the zero Query and want.
func wantErr(t *testing.T, s string, want api.Err) {
	t.Helper()
	if got, err := ask.Parse(s); err != want || !reflect.DeepEqual(got, api.Query{}) {
		t.Errorf("P17.1: Parse(%.450q) = %s, %+v, not %+v", s, show(got), err, want)
	}
}

// wantFault fails unless Parse(s) is the zero Query and ErrForm at at.
func wantFault(t *testing.T, s string, at int) {
	t.Helper()
	wantErr(t, s, api.Err{Code: api.ErrForm, At: at})
}

// wantMost fails unless Parse(s) is the zero Query and ErrMost without a place.
func wantMost(t *testing.T, s string) {
	t.Helper()
	wantErr(t, s, api.Err{Code: api.ErrMost, At: -1})
}

// wantText fails unless Put(q) is want.
func wantText(t *testing.T, q api.Query, want string) {
	t.Helper()
	if got := ask.Put(q); got != want {
		t.Errorf("P17.1: Put(%s) = %q, not %q", show(q), got, want)
	}
}

// kinds are those of the operators, by the operators.
func kinds() map[string]int {
	return map[string]int{"+": api.QUnion, "^": api.QMeet, "-": api.QLess}
}

// reserved are the name words that are valid names, but no names in a query.
func reserved() []string {
	return []string{"let", "deps", "rdeps", "somepath", "allpaths", "kind", "filter", "all", "-"}
}

// forms are texts, each with a place for a query, QUERY, in each place of the grammar that takes one.
func forms() []string {
	return []string{
		"QUERY", "(QUERY)", "((QUERY))", "(QUERY) + x", "x - (QUERY)", "x ^ (QUERY) + y", "deps(QUERY)", "deps(QUERY, 7)", "rdeps(QUERY)",
		"somepath(QUERY, x)", "somepath(x, QUERY)", "allpaths(QUERY, x)", "allpaths(x, QUERY)", "kind(rule, QUERY)", "kind(made, QUERY)",
		"kind(source, QUERY)", `filter("s", QUERY)`, "let v = QUERY in x", "let v = x in QUERY", "let v = (QUERY) in x", "let v = x in (QUERY)",
	}
}

// itemForms are texts, each with a place for a name, NAME, that is an item of its own.
func itemForms() []string {
	return filled("NAME", "NAME + y", "y ^ NAME", "y - (NAME)")
}

// strictForms are texts, each with a place for a name, NAME, in which no other item can stand.
func strictForms() []string {
	return filled(":NAME", ": NAME", "$NAME", "$ NAME", "y - :NAME", "$NAME ^ y", "let NAME = y in z", "let v = y in $NAME")
}

// filled is each of forms with each of queries in the place of QUERY.
func filled(queries ...string) []string {
	var all []string
	for _, f := range forms() {
		for _, q := range queries {
			all = append(all, strings.ReplaceAll(f, "QUERY", q))
		}
	}
	return all
}

func TestExamplesOfParse(t *testing.T) {
	wantQuery(t, "a - b - c", at(6, op(api.QLess, at(2, op(api.QLess, file("a"), at(4, file("b")))), at(8, file("c")))))
	wantFault(t, "", 0)
	wantFault(t, "deps(x,1001)", 7)
	wantFault(t, "x + let v = a in b", 4)
	wantMost(t, strings.Repeat("x + ", 30)+"x")
}

func TestItems(t *testing.T) {
	wantQuery(t, "x", file("x"))
	wantQuery(t, "  x", at(2, file("x")))
	wantQuery(t, "(x)", at(1, file("x")))
	wantQuery(t, "( ( (x)) )", at(5, file("x")))
	wantQuery(t, ":r", rule("r"))
	wantQuery(t, " : r", at(1, rule("r")))
	wantQuery(t, "(:r)", at(1, rule("r")))
	wantQuery(t, "$v", named("v"))
	wantQuery(t, "\t$\nv", at(1, named("v")))
	wantQuery(t, "($v)", at(1, named("v")))
}

func TestCalls(t *testing.T) {
	x, y := file("x"), file("y")
	wantQuery(t, "deps(x)", far(-1, at(5, x)))
	wantQuery(t, " deps ( x )", at(1, far(-1, at(8, x))))
	wantQuery(t, "deps(x,0)", far(0, at(5, x)))
	wantQuery(t, "deps(x, 12)", far(12, at(5, x)))
	wantQuery(t, "deps((x),12)", far(12, at(6, x)))
	wantQuery(t, "deps(1,2)", far(2, at(5, file("1"))))
	wantQuery(t, "rdeps(x)", call(api.QRdeps, "", at(6, x)))
	wantQuery(t, "(rdeps(x))", at(1, call(api.QRdeps, "", at(7, x))))
	wantQuery(t, "somepath(x,y)", call(api.QSome, "", at(9, x), at(11, y)))
	wantQuery(t, "somepath(y, x)", call(api.QSome, "", at(9, y), at(12, x)))
	wantQuery(t, "allpaths(x,y)", call(api.QAll, "", at(9, x), at(11, y)))
	wantQuery(t, "allpaths(y , x)", call(api.QAll, "", at(9, y), at(13, x)))
	wantQuery(t, "kind(rule,x)", call(api.QKind, "rule", at(10, x)))
	wantQuery(t, "kind(made,x)", call(api.QKind, "made", at(10, x)))
	wantQuery(t, " kind( source , x )", at(1, call(api.QKind, "source", at(16, x))))
	wantQuery(t, "kind(made,made)", call(api.QKind, "made", at(10, file("made"))))
	wantQuery(t, `filter("s",x)`, call(api.QFilter, "s", at(11, x)))
	wantQuery(t, "all()", all())
	wantQuery(t, " all ( ) ", at(1, all()))
	wantQuery(t, "rdeps(deps(all(),3))", call(api.QRdeps, "", at(6, far(3, at(11, all())))))
	wantQuery(t, "allpaths(somepath(x,y),kind(rule,:x))",
		call(api.QAll, "", at(9, call(api.QSome, "", at(18, x), at(20, y))), at(23, call(api.QKind, "rule", at(33, rule("x"))))))
}

func TestLets(t *testing.T) {
	x, y, v := file("x"), file("y"), named("v")
	wantQuery(t, "let v = x in $v", let("v", at(8, x), at(13, v)))
	wantQuery(t, "let v=x in$v", let("v", at(6, x), at(10, v)))
	wantQuery(t, " let v = x + y in y ^ $v", at(1, let("v", at(11, op(api.QUnion, at(9, x), at(13, y))), at(20, op(api.QMeet, at(18, y), at(22, v))))))
	wantQuery(t, "let v = x in let v = $v in $v", let("v", at(8, x), at(13, let("v", at(21, v), at(27, v)))))
	wantQuery(t, "let v = let v = x in $v in y", let("v", at(8, let("v", at(16, x), at(21, v))), at(27, y)))
	wantQuery(t, "(let v = x in $v) - y", at(18, op(api.QLess, at(1, let("v", at(9, x), at(14, v))), at(20, y))))
	wantQuery(t, "let v = x in $v - y", let("v", at(8, x), at(16, op(api.QLess, at(13, v), at(18, y)))))
	wantQuery(t, "x ^ (let v = x in $v)", at(2, op(api.QMeet, x, at(5, let("v", at(13, x), at(18, v))))))
	wantQuery(t, "deps(let v = x in $v, 3)", far(3, at(5, let("v", at(13, x), at(18, v)))))
	wantQuery(t, "somepath(let v = x in $v, let v = y in $v)",
		call(api.QSome, "", at(9, let("v", at(17, x), at(22, v))), at(26, let("v", at(34, y), at(39, v)))))
}

// All rows of up to five operators go from the left, whichever they are; a second Kid of several items has parentheses.
func TestOperatorsGoFromTheLeft(t *testing.T) {
	rows := [][]string{nil}
	for range 5 {
		var longer [][]string
		for _, row := range rows {
			text, want := "0", file("0")
			for i, o := range row {
				name := strconv.Itoa(i + 1)
				want = at(len(text)+1, op(kinds()[o], want, at(len(text)+3, file(name))))
				text += " " + o + " " + name
			}
			wantQuery(t, text, want)
			wantQuery(t, "("+text+")", shifted(want, 1))
			for o, kind := range kinds() {
				wantQuery(t, "x "+o+" ("+text+")", at(2, op(kind, file("x"), shifted(want, 5))))
				wantQuery(t, "("+text+") "+o+" x", at(len(text)+3, op(kind, shifted(want, 1), at(len(text)+5, file("x")))))
				longer = append(longer, append(slices.Clone(row), o))
			}
		}
		rows = longer
	}
}

// shifted is q with each place n further on.
func shifted(q api.Query, n int) api.Query {
	q = bare(q)
	q.At += n
	for i, k := range q.Kids {
		q.Kids[i] = shifted(k, n)
	}
	return q
}

// A query of any form stands wherever a query can, and without parentheses where no operator stands beside it.
func TestEachFormInEachPlace(t *testing.T) {
	for _, outer := range forms() {
		for _, inner := range forms() {
			s := strings.ReplaceAll(outer, "QUERY", strings.ReplaceAll(inner, "QUERY", "q"))
			want := parsed(t, strings.ReplaceAll(outer, "QUERY", "qqq"))
			wantSame(t, s, replaced(want, "qqq", parsed(t, strings.ReplaceAll(inner, "QUERY", "q"))))
		}
	}
}

// replaced is q with by in the place of the file name.
func replaced(q api.Query, name string, by api.Query) api.Query {
	if q.Kind == api.QLabel && q.Label == (api.Label{Name: name}) {
		return by
	}
	q = bare(q)
	for i, k := range q.Kids {
		q.Kids[i] = replaced(k, name, by)
	}
	return q
}

// renamed is q with to in the place of each name from.
func renamed(q api.Query, from, to string) api.Query {
	q = bare(q)
	if q.Name == from {
		q.Name = to
	}
	if q.Label.Name == from {
		q.Label.Name = to
	}
	for i, k := range q.Kids {
		q.Kids[i] = renamed(k, from, to)
	}
	return q
}

// Each place that takes a name takes all of them, those that look like a number, an operator or a call too.
func TestValidNames(t *testing.T) {
	for _, n := range []string{"a", "Z9._-", "a/b/c", "...", ".a", "_", "--", "-a", "a-", "a-b", "-1", "0", "7", "01", "1000", "1001", "made", "source",
		"rules", "ins", "inn", "In", "Let", "lets", "le", "DEPS", "dep", "depss", "rdep", "somepaths", "allpath", "kinds", "Kind", "filters", "al", "alls",
		"let/x", "in/out", "x/deps", "-/-", "all.", strings.Repeat("n", api.MaxName)} {
		for _, f := range append(itemForms(), strictForms()...) {
			want := renamed(parsed(t, strings.ReplaceAll(f, "NAME", "qqq")), "qqq", n)
			wantSame(t, strings.ReplaceAll(f, "NAME", n), want)
		}
	}
}

// A word that is no name cannot stand where a name has to; one that begins a call or a let can, where an item can.
func TestWhereNamesHaveToBe(t *testing.T) {
	for _, w := range []string{"-", "rule", "in", "out", "after", "/", "/a", "a/", "a//b", ".", "..", "./a", "a/../b", "a/.", strings.Repeat("n", api.MaxName+1),
		`""`, `"a"`, `"x y"`, "{", "}", ",", ";", "=", ")", "+", "^"} {
		for _, f := range append(itemForms(), strictForms()...) {
			wantFault(t, strings.ReplaceAll(f, "NAME", w), strings.Index(f, "NAME"))
		}
	}
	for _, w := range append(reserved(), ":", "$", "(", "(x)", ":x", "$x") {
		for _, f := range strictForms() {
			wantFault(t, strings.ReplaceAll(f, "NAME", w), strings.Index(f, "NAME"))
			wantFault(t, strings.ReplaceAll(f, "NAME", w+"(x)"), strings.Index(f, "NAME"))
		}
	}
	for _, w := range []string{"deps", "rdeps", "somepath", "allpaths", "kind", "filter", "all"} {
		for _, f := range itemForms() {
			after := strings.Index(f, "NAME") + len("NAME")
			next := after + len(f[after:]) - len(strings.TrimLeft(f[after:], " "))
			wantFault(t, strings.ReplaceAll(f, "NAME", w), next+len(w)-len("NAME"))
		}
	}
}

// The name word "-" is an operator where it stands alone, and a byte of a name everywhere else.
func TestMinus(t *testing.T) {
	wantSame(t, "a - b", op(api.QLess, file("a"), file("b")))
	wantSame(t, "a-b", file("a-b"))
	wantSame(t, "a--b", file("a--b"))
	wantSame(t, "a - --", op(api.QLess, file("a"), file("--")))
	wantSame(t, "a-", file("a-"))
	wantSame(t, "(a)-(b)", op(api.QLess, file("a"), file("b")))
	wantSame(t, "all()-:b", op(api.QLess, all(), rule("b")))
	wantSame(t, "(a)- b", op(api.QLess, file("a"), file("b")))
	wantSame(t, "a -$b", op(api.QLess, file("a"), named("b")))
	wantSame(t, "a#\n-#\nb", op(api.QLess, file("a"), file("b")))
	for s, at := range map[string]int{"-": 0, "a -": 3, "a -b": 2, "a- b": 3, "a -- b": 2, "(a)-b": 3, "- a": 0, "a - - b": 4, "a + - b": 4, "a - + b": 4, "(-)": 1,
		"deps(-)": 5, "deps(x,-)": 7, "deps(x -)": 8, ":-": 1, "$-": 1, "let - = a in b": 4, `a "-" b`: 2, "a \"+\" b": 2} {
		wantFault(t, s, at)
	}
}

func TestNumbers(t *testing.T) {
	for n := range 1001 {
		wantQuery(t, "deps(x,"+strconv.Itoa(n)+")", far(n, at(5, file("x"))))
	}
	for n := 1001; n < 12000; n++ {
		wantFault(t, "deps(x,"+strconv.Itoa(n)+")", 7)
	}
	for _, n := range []string{"00", "01", "007", "01000", "000", "99999", "2147483648", "9223372036854775807", "9223372036854775808", "18446744073709551616",
		"18446744073709551617", "18446744073709552616", strings.Repeat("9", 300), "-0", "-1", "+1", "1.0", "1e2", "0x1", "1_0", "7/7", "seven", "-", "x", "in", "deps",
		`"7"`, `""`, "$v", ":r", "(7)", "=", ",", ")", "^", ":", ""} {
		wantFault(t, "deps(x,"+n+")", 7)
	}
	for s, at := range map[string]int{"deps(x,7 7)": 9, "deps(x,7 + 7)": 9, "deps(x,7,7)": 8, "deps(x,7;)": 8, "deps(x,7(": 8, "deps(x,7 x)": 9, "deps(x,7$": 8, "deps(x,7": 8, "deps(x,  )": 9,
		"rdeps(x,1)": 7, "all(1)": 4, "kind(rule,x,1)": 11, `filter("",x,1)`: 11, "somepath(x,y,1)": 12, "allpaths(x,y,1)": 12, "deps(x),1": 7, "x,1": 1, "(x,1)": 2} {
		wantFault(t, s, at)
	}
}

// The N of a query other than QDeps is 0, and that of a QDeps without a number -1.
func TestN(t *testing.T) {
	for _, f := range forms() {
		for _, inner := range []string{"x", ":r", "$v", "a + b", "a ^ b", "a - b", "deps(x)", "deps(x, 0)", "deps(x, 5)", "let v = x in y", "all()"} {
			s := strings.ReplaceAll(f, "QUERY", inner)
			wantNumbers(t, s, parsed(t, s))
		}
	}
}

// wantNumbers fails unless each N in q is 0, or, in a QDeps, what stands in s behind its Kid.
func wantNumbers(t *testing.T, s string, q api.Query) {
	t.Helper()
	want := 0
	if q.Kind == api.QDeps {
		want = -1
		for _, n := range []int{0, 5, 7} {
			if strings.HasPrefix(behind(s[q.At:]), ", "+strconv.Itoa(n)+")") {
				want = n
			}
		}
	}
	if q.N != want {
		t.Errorf("P17.1: Parse(%q): the N of the node at %d is %d, not %d", s, q.At, q.N, want)
	}
	for _, k := range q.Kids {
		wantNumbers(t, s, k)
	}
}

// behind is what follows the Kid of the deps with which s begins.
func behind(s string) string {
	open := 0
	for i := len("deps("); i < len(s); i++ {
		switch {
		case s[i] == '(':
			open++
		case s[i] == ')' && open == 0, s[i] == ',' && open == 0:
			return s[i:]
		case s[i] == ')':
			open--
		}
	}
	return ""
}

func TestKindsOfLabels(t *testing.T) {
	for _, k := range []string{"rule", "made", "source"} {
		wantSame(t, "kind("+k+",x)", call(api.QKind, k, file("x")))
		wantFault(t, "kind(\""+k+"\",x)", 5)
		wantFault(t, "kind("+k+"s,x)", 5)
		wantFault(t, "kind("+strings.ToUpper(k)+",x)", 5)
		wantFault(t, "kind("+k+" "+k+",x)", 6+len(k))
		wantFault(t, "kind(("+k+"),x)", 5)
		wantFault(t, "kind("+k+")", 5+len(k))
		wantFault(t, "kind("+k+",)", 6+len(k))
		wantFault(t, "kind("+k+" x)", 6+len(k))
		wantFault(t, "kind("+k+",x", 7+len(k))
	}
	for _, k := range []string{"", "x", "1", "rul", "file", "label", "in", "all", "kind", "-", "$rule", ":rule", "a//b", "=", ",", "+"} {
		wantFault(t, "kind("+k+",x)", 5)
	}
	wantFault(t, "kind(rule,rule)", 10)
	wantFault(t, "rule", 0)
}

// Strings stand for their bytes, whatever words they look like, and stand nowhere but in a filter.
func TestStrings(t *testing.T) {
	for s, want := range map[string]string{`""`: "", `"a"`: "a", `"a b"`: "a b", `"deps"`: "deps", `")"`: ")", `","`: ",", `"#"`: "#", `"\n\t\\\"\x00\xff"`: "\n\t\\\"\x00\xff",
		`"` + strings.Repeat("l", 300) + `"`: strings.Repeat("l", 300)} {
		wantQuery(t, "filter("+s+",x)", call(api.QFilter, want, at(8+len(s), file("x"))))
		for _, f := range forms() {
			if !strings.HasPrefix(want, "lll") {
				wantFault(t, strings.ReplaceAll(f, "QUERY", s), strings.Index(f, "QUERY"))
			}
		}
	}
	for s, at := range map[string]int{`filter(s,x)`: 7, `filter(,x)`: 7, `filter(x)`: 7, `filter("s")`: 10, `filter("s" x)`: 11, `filter("s","t")`: 11, `filter("s",x,"t")`: 12,
		`filter("s" "t",x)`: 11, `filter("s" + "t",x)`: 11, `filter(("s"),x)`: 7, `filter(7,x)`: 7, `filter()`: 7, `filter("s",)`: 11, `filter($s,x)`: 7, `"filter"("s",x)`: 0,
		`deps"("x)`: 4, `x "+" y`: 2, `let "v" = x in y`: 4, `let v "=" x in y`: 6, `let v = x "in" y`: 10, `:"r"`: 1, `$"v"`: 1, `all("")`: 4, `somepath(x "," y)`: 11} {
		wantFault(t, s, at)
	}
}

// Blanks and remarks stand between any two words, and need not where the words do not run into one another.
func TestBlanksAndRemarks(t *testing.T) {
	const s = `let v = ( a + :b ) ^ $w - deps ( c , 12 ) in somepath ( rdeps ( $v ) , allpaths ( d , e ) ) + kind ( made , filter ( "x y" , all ( ) ) )`
	want := parsed(t, s)
	parts := strings.Split(strings.ReplaceAll(s, "x y", "x_y"), " ")
	for i, p := range parts {
		parts[i] = strings.ReplaceAll(p, "x_y", "x y")
	}
	for _, gap := range []string{" ", "  ", "\t", "\n", "\r", "\r\n", "#\n", "#(\n", " #!\"\n ", "\n#\n"} {
		wantSame(t, gap+strings.Join(parts, gap)+gap, want)
		wantSame(t, strings.Join(parts, gap)+gap+"#", want)
		wantSame(t, strings.Join(parts, gap)+"# !", want)
	}
	wantSame(t, `let v=(a+:b)^$w - deps(c,12)in somepath(rdeps($v),allpaths(d,e))+kind(made,filter("x y",all()))`, want)
	for _, b := range []string{"\x00", "\v", "\f", "\xa0", "\x85", "\x7f", "\u00a0", "\u2003"} {
		wantFault(t, "x"+b, 1)
		wantFault(t, b+"x", 0)
		wantFault(t, "a +"+b+"b", 3)
	}
	wantFault(t, "# x", 3)
	wantFault(t, "#x\n  # y\n", 9)
}

// The first word that cannot stand where it does is told, and the end of the text where that comes too early.
func TestWordsOutOfPlace(t *testing.T) {
	for s, at := range map[string]int{
		"": 0, " ": 1, "\n\n": 2, "x y": 2, "x :r": 2, "x $v": 2, "x (y)": 2, "x deps(y)": 2, "x let v = a in b": 2, "x in y": 2, "x = y": 2, "x, y": 1, "x;": 1, "x)": 1, "x }": 2,
		"(x": 2, "(x,y)": 2, "((x)": 4, "(x))": 3, "()": 1, "( )": 2, ")": 0, "(x y)": 3, "x +": 3, "x + ": 4, "x + +": 4, "+ x": 0, "^": 0, "x + ) y": 4, "x + (": 5,
		":": 1, ": ": 2, "::r": 1, ":$r": 1, ":(r)": 1, "$": 1, "$$v": 1, "$:v": 1, "$(v)": 1, "$v w": 3, "$v(x)": 2, ":r(x)": 2, "x(y)": 1,
		"deps": 4, "deps x": 5, "deps)": 4, "deps(": 5, "deps()": 5, "deps(,1)": 5, "deps(x": 6, "deps(x y)": 7, "deps(x,": 7, "deps(x,)": 7, "deps(x,y)": 7, "deps(x;1)": 6,
		"deps(x,1": 8, "deps(x,1,": 8, "deps(x))": 7, "deps(x)(y)": 7, "deps{x}": 4, "deps = x": 5, "deps + x": 5, "deps deps(x)": 5,
		"rdeps": 5, "rdeps()": 6, "rdeps(x,1)": 7, "rdeps(x,y)": 7, "rdeps(x": 7, "rdeps rdeps(": 6,
		"somepath": 8, "somepath()": 9, "somepath(x)": 10, "somepath(x,)": 11, "somepath(x,y": 12, "somepath(x,y,": 12, "somepath(x,y,z)": 12, "somepath(,y)": 9, "somepath(x y)": 11,
		"allpaths": 8, "allpaths()": 9, "allpaths(x)": 10, "allpaths(x,)": 11, "allpaths(x,y": 12, "allpaths(x,y,z)": 12, "allpaths(,y)": 9, "allpaths(x;y)": 10,
		"kind": 4, "kind()": 5, "kind(x)": 5, "kind(x,rule)": 5, "kind(rule": 9, "kind(rule,x,y)": 11, "kind(rule;x)": 9, "kind rule": 5,
		"filter": 6, "filter x": 7, `filter "s"`: 7, `filter("s",x`: 12, `filter("s";x)`: 10,
		"all": 3, "all x": 4, "all(": 4, "all(x)": 4, "all(,)": 4, "all())": 5, "all()()": 5, "all() x": 6, "all + x": 4, "all all()": 4,
		"let": 3, "let let": 4, "let v": 5, "let v x": 6, "let v(": 5, "let =": 4, "let = x in y": 4, "let v =": 7, "let v = in y": 8, "let v = x": 9, "let v = x y": 10, "let v = x in": 12,
		"let v = x in )": 13, "let v = x in y)": 14, "let v = x in y in z": 15, "let v = x = y in z": 10, "let v := x in y": 6, "let $v = x in y": 4, "let :v = x in y": 4,
		"let v, w = x in y": 5, "let v = x, y in z": 9, "let (v) = x in y": 4, "let v = (x in y)": 11, "let v = (let w = x) in y": 18, "let v = x in y + let w = a in b": 17,
		"let v = x + let w = a in b in c": 12, "x ^ let v = a in b": 4, "x - let v = a in b": 4, "in": 0, "out": 0, "after": 0, "rule": 0, "{": 0, "=": 0, ",": 0, ";": 0,
		"deps(in)": 5, "(x + )": 5, "(+ x)": 1, "deps(+ x)": 5, "deps(x +)": 8, "deps(x + , 1)": 9, "a + b c": 6, "a b + c": 2, "a + (b c)": 7,
		"x + # y\n": 8, "deps(x # )\n": 11, "a +\n\n# b\n! ": 9,
	} {
		wantFault(t, s, at)
	}
}

// Once a word is out of place, nothing behind it counts, however much of it looks like calls and parentheses.
func TestFirstWordOutOfPlace(t *testing.T) {
	for _, tail := range []string{"", " x", " (", " ((((", " deps", " deps deps deps", " deps(deps(deps(", " let", " let let let", " let v = x in", " ) ) )", " + + +", " - -", " : : :", " $ $", ", ,",
		` "s" "t"`, " all()", " kind(kind(", " filter(filter(", " somepath(x,", " = = =", " in in in"} {
		wantFault(t, "x y"+tail, 2)
		wantFault(t, "deps deps"+tail, 5)
		wantFault(t, "deps(let let"+tail, 9)
		wantFault(t, "(x + {"+tail, 5)
		wantFault(t, "kind(deps"+tail, 5)
		wantFault(t, "let v = x in ("+"^"+tail, 14)
		wantFault(t, "somepath(a somepath"+tail, 11)
		wantFault(t, "filter(filter"+tail, 7)
		wantFault(t, "all all"+tail, 4)
		wantFault(t, "deps(x, deps"+tail, 8)
	}
}

// A text that is too long counts ahead of its words, a word that is not valid ahead of one out of place, and that ahead of the depth.
func TestOrderOfErrors(t *testing.T) {
	blank := strings.Repeat(" ", api.MaxAsk)
	deep := strings.Repeat("deps(", 31) + "x" + strings.Repeat(")", 31)
	wantQuery(t, blank[1:]+"x", at(399, file("x")))
	wantQuery(t, "x"+blank[1:], file("x"))
	wantQuery(t, "x#"+strings.Repeat("!", 398), file("x"))
	for _, s := range []string{"x", "!", "", "x y", "\"", deep} {
		for _, long := range []string{blank + " " + s, s + blank + " ", strings.Repeat(s, 401) + blank + blank} {
			wantMost(t, long)
		}
	}
	wantMost(t, blank+"x")
	wantMost(t, "x"+blank)
	wantMost(t, strings.Repeat("x+", 200)+"x")
	wantMost(t, strings.Repeat("x", 1<<20))
	wantFault(t, blank, 400)
	wantFault(t, blank[1:]+"!", 399)
	wantFault(t, blank[1:]+"(", 400)
	for s, at := range map[string]int{"x y !": 4, "! x y": 0, ") \"": 2, `x y "\q"`: 4, "deps(x,1001) @": 13, "x + let v = a in b \\": 19, deep + "!": len(deep), deep + ` "x`: len(deep) + 1,
		"!" + deep: 0, "x [": 2, "'": 0, "é": 0, "x é": 2, "x &": 2, "x * y": 2, "a|b": 1, "\x00": 0, `filter("é",x)`: 7, `filter("\xAB",x)`: 7, "filter(\"\n\",x)": 7} {
		wantFault(t, s, at)
	}
	wantMost(t, deep)
	wantFault(t, deep+" x", len(deep)+1)
	wantFault(t, deep+")", len(deep))
	wantFault(t, deep[:len(deep)-1], len(deep)-1)
	wantFault(t, "x "+deep, 2)
	wantFault(t, strings.Repeat("x+", 40), 80)
}

// Queries are 30 deep at the most, in whatever way; parentheses make none deeper.
func TestDepth(t *testing.T) {
	for _, f := range []string{"deps(Q)", "deps(Q,7)", "rdeps(Q)", "(Q)+x", "Q+x", "Q - y", "Q^z", "x+(Q)", "kind(rule,Q)", `filter("",Q)`, "let v=x in Q", "let v=(Q)in x"} {
		s := "q"
		for n := 1; len(s) <= api.MaxAsk; n++ {
			if q, err := ask.Parse(s); n > api.MaxDeep {
				wantMost(t, s)
			} else if err.Code != api.OK || ask.Deep(q) != n {
				t.Errorf("P17.1: Parse(%q) = %+v, and not %d deep", s, err, n)
			}
			s = strings.ReplaceAll(f, "Q", s)
		}
	}
	deep := strings.Repeat("deps(", api.MaxDeep-3) + "a+b" + strings.Repeat(")", api.MaxDeep-3)
	for _, f := range []string{"deps(Q)", "somepath(Q,x)", "somepath(x,Q)", "allpaths(Q,x)", "allpaths(x,Q)", "let v=Q in x", "let v=x in Q", "x+Q", "Q ^ x"} {
		s := strings.ReplaceAll(f, "Q", deep)
		if q := parsed(t, s); ask.Deep(q) != api.MaxDeep {
			t.Errorf("P17.1: %q is %d deep", s, ask.Deep(q))
		}
		wantMost(t, strings.ReplaceAll(f, "Q", "rdeps("+deep+")"))
	}
}

func TestParentheses(t *testing.T) {
	for n := range 200 {
		open, shut := strings.Repeat("(", n), strings.Repeat(")", n)
		wantQuery(t, open+"x"+shut, at(n, file("x")))
		if n > 0 {
			wantFault(t, open+"x"+shut[1:], 2*n)
			wantFault(t, open[1:]+"x"+shut, 2*n-1)
			wantFault(t, open+shut, n)
			wantFault(t, open, n)
			wantFault(t, shut, 0)
		}
	}
	wantFault(t, strings.Repeat("(", 400), 400)
	wantFault(t, strings.Repeat(")", 400), 0)
	wantFault(t, strings.Repeat("$", 400), 1)
	wantFault(t, strings.Repeat("deps(", 80), 400)
	wantFault(t, strings.Repeat("let ", 100), 4)
	wantFault(t, strings.Repeat("let v=", 66), 396)
	wantFault(t, strings.Repeat("let v=a in ", 36), 396)
	wantFault(t, strings.Repeat("kind(rule,", 40), 400)
	wantFault(t, strings.Repeat("x-(", 133), 2)
	wantFault(t, strings.Repeat("x - (", 80), 400)
}
