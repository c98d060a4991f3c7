package tree_test

import (
	"maps"
	"slices"
	"strconv"
	"strings"
	"testing"

	"shipwright/api"
	"shipwright/mint"
	"shipwright/path"
	"shipwright/tree"
)

// numbered returns n files, n0 first, each with its number as its contents.
func numbered(n int) []api.File {
	fs := make([]api.File, 0, n)
	for i := range n {
		fs = append(fs, api.File{Name: "n" + strconv.Itoa(i), B: strconv.Itoa(i)})
	}
	return fs
}

// full returns a tree with as many files as it may have.
func full(t *testing.T) *tree.Tree {
	t.Helper()
	tr := tree.New(numbered(api.MaxFiles)...)
	if tr.Len() != api.MaxFiles {
		t.Fatalf("P3.1: New of %d files has %d", api.MaxFiles, tr.Len())
	}
	return tr
}

// wantErr fails the test if a call told another error than it should.
func wantErr(t *testing.T, call string, got, want api.Errno) {
	t.Helper()
	if got != want {
		t.Errorf("P3.1: %s = %d, not %d", call, got, want)
	}
}

// wantFiles fails the test if one of the calls that ask a tree answers otherwise than for the given files.
func wantFiles(t *testing.T, call string, tr *tree.Tree, files map[string]string) {
	t.Helper()
	names := slices.Sorted(maps.Keys(files))
	if got := tr.Names(); !slices.Equal(got, names) {
		t.Errorf("P3.1: after %s, Names = %q, not %q", call, got, names)
	}
	if got := tr.Len(); got != len(files) {
		t.Errorf("P3.1: after %s, Len = %d, not %d", call, got, len(files))
	}
	var parts []string
	for _, name := range names {
		parts = append(parts, name, files[name])
		if b, ok := tr.Read(name); b != files[name] || !ok {
			t.Errorf("P3.1: after %s, Read(%q) = %q, %v, not %q", call, name, b, ok, files[name])
		}
	}
	if got := tr.Key(); got != mint.Put(parts...) {
		t.Errorf("P3.1: after %s, Key = %q", call, got)
	}
}

// wantNone fails the test if a tree has a file of that name.
func wantNone(t *testing.T, tr *tree.Tree, name string) {
	t.Helper()
	if b, ok := tr.Read(name); b != "" || ok {
		t.Errorf("P3.1: Read(%q) = %q, %v", name, b, ok)
	}
}

func TestNew(t *testing.T) {
	for _, c := range []struct {
		call  string
		fs    []api.File
		files map[string]string
	}{
		{"New of no list", nil, nil},
		{"New of none", []api.File{}, nil},
		{"New of one", []api.File{{Name: "a", B: "1"}}, map[string]string{"a": "1"}},
		{"New of one without contents", []api.File{{Name: "a"}}, map[string]string{"a": ""}},
		{"New of some", []api.File{{Name: "b", B: "1"}, {Name: "a/x", B: "2"}}, map[string]string{"b": "1", "a/x": "2"}},
		{"New of a name twice", []api.File{{Name: "a", B: "1"}, {Name: "b", B: "2"}, {Name: "a", B: "3"}}, map[string]string{"a": "3", "b": "2"}},
		{"New of wrong ones", []api.File{{}, {Name: "in", B: "1"}, {Name: "a", B: "2"}, {Name: "a b", B: "3"}, {Name: "c", B: "4"}}, map[string]string{"a": "2", "c": "4"}},
		{"New of wrong ones only", []api.File{{}, {Name: "/", B: "1"}}, nil},
		{"New of long contents", []api.File{{Name: "a", B: "1"}, {Name: "a", B: strings.Repeat("x", 2001)}, {Name: "b", B: strings.Repeat("x", 2001)}, {Name: "c", B: "2"}}, map[string]string{"a": "1", "c": "2"}},
	} {
		tr := tree.New(c.fs...)
		if tr == nil {
			t.Fatalf("P3.1: %s = nil", c.call)
		}
		wantFiles(t, c.call, tr, c.files)
	}
}

func TestNewOfTooMany(t *testing.T) {
	fs := append(numbered(70), api.File{Name: "n3", B: "late"}, api.File{Name: "a", B: "first"})
	files := map[string]string{}
	for _, f := range fs[:60] {
		files[f.Name] = f.B
	}
	files["n3"] = "late"
	wantFiles(t, "New of 72 files", tree.New(fs...), files)
}

func TestNewLeavesItsArgument(t *testing.T) {
	fs := []api.File{{Name: "b", B: "1"}, {Name: "a", B: "2"}, {Name: "spare", B: "3"}}
	want := slices.Clone(fs)
	tr := tree.New(fs[:2]...)
	wantErr(t, "Write", tr.Write("b", "new"), api.OK)
	wantErr(t, "Write", tr.Write("c", "new"), api.OK)
	wantErr(t, "Erase", tr.Erase("a"), api.OK)
	if !slices.Equal(fs, want) {
		t.Errorf("P0.3: New changed its argument to %q", fs)
	}
	fs[0] = api.File{Name: "x", B: "y"}
	wantFiles(t, "a change of New's argument", tr, map[string]string{"b": "new", "c": "new"})
}

// The zero Tree has no files, and takes some.
func TestZeroTree(t *testing.T) {
	var tr tree.Tree
	wantFiles(t, "nothing", &tr, nil)
	wantFiles(t, "Clone", tr.Clone(), nil)
	wantErr(t, "Erase", tr.Erase("a"), api.ErrNone)
	wantErr(t, "Write", tr.Write("a", "1"), api.OK)
	wantFiles(t, "Write", &tr, map[string]string{"a": "1"})
}

func TestWrite(t *testing.T) {
	tr := tree.New()
	files := map[string]string{}
	for _, f := range []api.File{
		{Name: "m", B: "1"}, {Name: "a", B: "2"}, {Name: "z", B: ""}, {Name: "m", B: "3"}, {Name: "m", B: "3"}, {Name: "a", B: ""},
		{Name: "b", B: "\x00\xff\n"}, {Name: strings.Repeat("y", 40), B: "40"}, {Name: "in/out", B: "5"}, {Name: "M", B: "6"}, {Name: "m/m", B: "7"},
	} {
		wantErr(t, "Write of "+f.Name, tr.Write(f.Name, f.B), api.OK)
		files[f.Name] = f.B
		wantFiles(t, "Write of "+f.Name, tr, files)
	}
}

func TestWriteOfWrongNames(t *testing.T) {
	long := strings.Repeat("x", 2001)
	some, whole := tree.New(api.File{Name: "a", B: "1"}), full(t)
	someKey, wholeKey := some.Key(), whole.Key()
	for _, name := range []string{
		"", "/", "/a", "a/", "a//b", ".", "..", "a/.", "a/../b", "a b", "a\n", "a\x00", "\xff", "\u00e4", "a\\b", "a:b",
		"rule", "in", "out", "after", strings.Repeat("y", 41), strings.Repeat("y", 1<<20),
	} {
		for _, b := range []string{"", "1", long} {
			wantErr(t, "Write of a wrong name", some.Write(name, b), api.ErrForm)
			wantErr(t, "Write of a wrong name into a full tree", whole.Write(name, b), api.ErrForm)
		}
		wantNone(t, some, name)
		wantNone(t, whole, name)
		wantErr(t, "Erase of a wrong name", some.Erase(name), api.ErrNone)
		wantErr(t, "Erase of a wrong name from a full tree", whole.Erase(name), api.ErrNone)
	}
	if some.Key() != someKey || whole.Key() != wholeKey {
		t.Error("P3.1: Write of a wrong name changed the tree")
	}
}

func TestWriteTakesTheValidNames(t *testing.T) {
	for c := range 256 {
		for _, name := range []string{string([]byte{byte(c)}), "a" + string([]byte{byte(c)}) + "b"} {
			want := api.ErrForm
			if path.May(name) {
				want = api.OK
			}
			wantErr(t, "Write of "+strconv.Quote(name), tree.New().Write(name, ""), want)
		}
	}
}

func TestWriteOfLongContents(t *testing.T) {
	most := strings.Repeat("x", 2000)
	tr := tree.New(api.File{Name: "a", B: "1"}, api.File{Name: "b", B: "2"})
	for _, b := range []string{most + "x", strings.Repeat("\u00e4", 1001), strings.Repeat("x", 1<<20)} {
		wantErr(t, "Write of a new file that is too long", tr.Write("c", b), api.ErrMost)
		wantErr(t, "Write of a file that is too long", tr.Write("a", b), api.ErrMost)
		wantFiles(t, "Write of too much", tr, map[string]string{"a": "1", "b": "2"})
	}
	wantErr(t, "Write of 1,999 bytes", tr.Write("a", most[1:]), api.OK)
	wantErr(t, "Write of 2,000 bytes", tr.Write("b", most), api.OK)
	wantErr(t, "Write of a new file of 2,000 bytes", tr.Write("c", most), api.OK)
	wantErr(t, "Write of 1,000 letters of two bytes", tr.Write("d", strings.Repeat("\u00e4", 1000)), api.OK)
	wantErr(t, "Write of 2,001 bytes", tr.Write("b", most+"x"), api.ErrMost)
	wantFiles(t, "Write of 2,000 bytes", tr, map[string]string{"a": most[1:], "b": most, "c": most, "d": strings.Repeat("\u00e4", 1000)})
}

func TestWriteIntoAFullTree(t *testing.T) {
	tr := tree.New()
	files := map[string]string{}
	for i, f := range numbered(60) {
		wantErr(t, "Write of file "+strconv.Itoa(i), tr.Write(f.Name, f.B), api.OK)
		files[f.Name] = f.B
	}
	for _, name := range []string{"n60", "a", "z", "n"} {
		wantErr(t, "Write of one file more", tr.Write(name, "1"), api.ErrMost)
		wantErr(t, "Write of one file more, too long", tr.Write(name, strings.Repeat("x", 2001)), api.ErrMost)
		wantNone(t, tr, name)
	}
	wantFiles(t, "Write into a full tree", tr, files)
	for _, name := range []string{"n0", "n59", "n7"} {
		wantErr(t, "Write of a file of a full tree", tr.Write(name, "new"), api.OK)
		files[name] = "new"
	}
	wantErr(t, "Write of a file of a full tree, too long", tr.Write("n8", strings.Repeat("x", 2001)), api.ErrMost)
	wantFiles(t, "Write of a file of a full tree", tr, files)
	wantErr(t, "Erase", tr.Erase("n30"), api.OK)
	wantErr(t, "Write into the room left", tr.Write("a", "1"), api.OK)
	wantErr(t, "Write of one file more", tr.Write("n30", "1"), api.ErrMost)
	delete(files, "n30")
	files["a"] = "1"
	wantFiles(t, "Write into the room left", tr, files)
}

func TestErase(t *testing.T) {
	tr := tree.New(numbered(5)...)
	files := map[string]string{"n0": "0", "n1": "1", "n2": "2", "n3": "3", "n4": "4"}
	for _, name := range []string{"n2", "n0", "n4", "n1", "n3"} {
		for _, other := range []string{"n", "n00", "n5", "N0", "a", "", name + "/"} {
			wantErr(t, "Erase of "+other, tr.Erase(other), api.ErrNone)
		}
		wantErr(t, "Erase of "+name, tr.Erase(name), api.OK)
		wantErr(t, "Erase of "+name+" again", tr.Erase(name), api.ErrNone)
		wantNone(t, tr, name)
		delete(files, name)
		wantFiles(t, "Erase of "+name, tr, files)
	}
	wantErr(t, "Write after Erase", tr.Write("n2", "back"), api.OK)
	wantFiles(t, "Write after Erase", tr, map[string]string{"n2": "back"})
}

func TestRead(t *testing.T) {
	tr := tree.New(api.File{Name: "b", B: "1"}, api.File{Name: "e"}, api.File{Name: "d/x", B: "2"})
	for _, f := range []api.File{{Name: "b", B: "1"}, {Name: "e"}, {Name: "d/x", B: "2"}} {
		if b, ok := tr.Read(f.Name); b != f.B || !ok {
			t.Errorf("P3.1: Read(%q) = %q, %v, not %q", f.Name, b, ok, f.B)
		}
	}
	for _, name := range []string{"", "a", "c", "d", "x", "d/", "d/y", "f", "B", "bb", "in", "\xff"} {
		wantNone(t, tr, name)
	}
}

func TestNamesInOrderOfBytes(t *testing.T) {
	want := []string{"-", "-a", "...", ".a", "0", "10", "2", "9", "A", "Z", "_", "a", "a-b", "a.b", "a/b", "a0", "aB", "a_", "aa", "ab", "b", "z"}
	rising, falling := tree.New(), tree.New()
	for i := range want {
		wantErr(t, "Write", rising.Write(want[i], ""), api.OK)
		wantErr(t, "Write", falling.Write(want[len(want)-1-i], ""), api.OK)
	}
	for _, tr := range []*tree.Tree{rising, falling} {
		if got := tr.Names(); !slices.Equal(got, want) {
			t.Errorf("P3.1: Names = %q, not %q", got, want)
		}
	}
}

func TestNamesAreNew(t *testing.T) {
	tr := tree.New(numbered(3)...)
	first, second := tr.Names(), tr.Names()
	_ = append(first, "more")
	first[0], first[1] = "x", ""
	_ = append(first[:1], "y")
	// One at a time: a call of Names could put right what two results share.
	for i, got := range []func() []string{func() []string { return second }, tr.Names, tr.Clone().Names} {
		if got := got(); !slices.Equal(got, []string{"n0", "n1", "n2"}) {
			t.Errorf("P0.3: Names %d = %q after another result was changed", i, got)
		}
	}
	wantFiles(t, "a change of Names", tr, map[string]string{"n0": "0", "n1": "1", "n2": "2"})
	wantErr(t, "Write", tr.Write("a", ""), api.OK)
	wantErr(t, "Erase", tr.Erase("n1"), api.OK)
	if !slices.Equal(second, []string{"n0", "n1", "n2"}) {
		t.Errorf("P0.3: a result of Names = %q after the tree was changed", second)
	}
}

// Whichever of the two is written or erased in, the other stays as it was.
func TestClone(t *testing.T) {
	files := map[string]string{"n0": "0", "n1": "1", "n2": "2", "n3": "3"}
	for _, n := range []string{"the clone", "the tree"} {
		one := tree.New(numbered(5)...)
		// A file erased ahead of Clone leaves room that the two could share.
		wantErr(t, "Erase", one.Erase("n4"), api.OK)
		other := one.Clone()
		if n == "the clone" {
			one, other = other, one
		}
		wantFiles(t, "Clone", one, files)
		wantFiles(t, "Clone", other, files)
		wantErr(t, "Write", one.Write("n1", "new"), api.OK)
		wantFiles(t, "Write of a file in "+n, other, files)
		wantErr(t, "Write", one.Write("z", "last"), api.OK)
		wantErr(t, "Write", other.Write("y", "other"), api.OK)
		wantFiles(t, "Write of a last file in both", one, map[string]string{"n0": "0", "n1": "new", "n2": "2", "n3": "3", "z": "last"})
		wantErr(t, "Erase", other.Erase("y"), api.OK)
		wantErr(t, "Write", one.Write("a", "first"), api.OK)
		wantFiles(t, "Write of a first file in "+n, other, files)
		wantErr(t, "Erase", one.Erase("n2"), api.OK)
		wantErr(t, "Erase", one.Erase("n0"), api.OK)
		wantFiles(t, "Erase in "+n, other, files)
		wantFiles(t, "all of these", one, map[string]string{"a": "first", "n1": "new", "n3": "3", "z": "last"})
	}
}

func TestCloneOfAFullTree(t *testing.T) {
	tr := full(t)
	c := tr.Clone()
	wantErr(t, "Write into a full clone", c.Write("more", ""), api.ErrMost)
	wantErr(t, "Erase", tr.Erase("n0"), api.OK)
	wantErr(t, "Write into a full clone", c.Write("more", ""), api.ErrMost)
	wantErr(t, "Write into the tree", tr.Write("more", ""), api.OK)
	if c.Len() != 60 || c.Key() != full(t).Key() {
		t.Errorf("P3.1: a clone with %d files", c.Len())
	}
}

func TestKey(t *testing.T) {
	for _, c := range []struct {
		fs   []api.File
		want string
	}{
		{nil, ""},
		{[]api.File{{Name: "a"}}, "1:a0:"},
		{[]api.File{{Name: "b", B: "3"}, {Name: "a/x", B: "2"}}, "3:a/x1:21:b1:3"},
		{[]api.File{{Name: "a/x", B: "2"}, {Name: "b", B: "3"}}, "3:a/x1:21:b1:3"},
		{[]api.File{{Name: "b", B: "1"}, {Name: "a", B: "0123456789"}, {Name: "B", B: "1:a\xff"}}, "1:B4:1:a\xff1:a10:01234567891:b1:1"},
	} {
		if got := tree.New(c.fs...).Key(); got != c.want {
			t.Errorf("P3.1: Key of %q = %q, not %q", c.fs, got, c.want)
		}
	}
}

// Trees with the same files have one key, whatever became of them before; others have different ones.
func TestKeyTellsTheFilesAlone(t *testing.T) {
	a := tree.New(api.File{Name: "a", B: "1"}, api.File{Name: "b", B: "2"})
	b := tree.New(api.File{Name: "c", B: "3"}, api.File{Name: "b", B: "old"}, api.File{Name: "a", B: "1"})
	if a.Key() == b.Key() {
		t.Error("P3.1: Key of different trees")
	}
	wantErr(t, "Write", b.Write("b", "2"), api.OK)
	wantErr(t, "Erase", b.Erase("c"), api.OK)
	if a.Key() != b.Key() || a.Key() != a.Clone().Key() {
		t.Error("P3.1: Key of equal trees")
	}
	made := map[string]int{}
	for i, fs := range [][]api.File{
		{}, {{Name: "a"}}, {{Name: "b"}}, {{Name: "a", B: "b"}}, {{Name: "a"}, {Name: "b"}}, {{Name: "a", B: "1:b0:"}},
		{{Name: "a", B: "0:1:b"}}, {{Name: "ab"}}, {{Name: "a/b"}}, {{Name: "a", B: "0:"}}, {{Name: "a", B: "1"}}, {{Name: "a1"}},
	} {
		key := tree.New(fs...).Key()
		if other, ok := made[key]; ok {
			t.Errorf("P3.1: Key of trees %d and %d = %q", other, i, key)
		}
		made[key] = i
	}
}

func TestNilTree(t *testing.T) {
	var none *tree.Tree
	for _, name := range []string{"a", "", "in", "a//b", strings.Repeat("y", 41)} {
		for _, b := range []string{"", "1", strings.Repeat("x", 2001)} {
			wantErr(t, "Write on nil", none.Write(name, b), api.ErrDown)
		}
		wantErr(t, "Erase on nil", none.Erase(name), api.ErrDown)
		wantNone(t, none, name)
	}
	if got := none.Names(); len(got) != 0 {
		t.Errorf("P3.1: Names of nil = %q", got)
	}
	if got := none.Len(); got != 0 {
		t.Errorf("P3.1: Len of nil = %d", got)
	}
	if got := none.Clone(); got != nil {
		t.Errorf("P3.1: Clone of nil has %d files", got.Len())
	}
	if got := none.Key(); got != "" {
		t.Errorf("P3.1: Key of nil = %q", got)
	}
}

// pair is a tree and the files that it should have.
type pair struct {
	tr    *tree.Tree
	files map[string]string
}

// write does to both what Write says, as the chapter tells it.
func (p pair) write(t *testing.T, name, b string) {
	t.Helper()
	_, old := p.files[name]
	want := api.OK
	switch {
	case !path.May(name):
		want = api.ErrForm
	case len(b) > 2000, !old && len(p.files) == 60:
		want = api.ErrMost
	default:
		p.files[name] = b
	}
	wantErr(t, "Write of "+name, p.tr.Write(name, b), want)
}

// erase does to both what Erase says, as the chapter tells it.
func (p pair) erase(t *testing.T, name string) {
	t.Helper()
	want := api.ErrNone
	if _, old := p.files[name]; old {
		want = api.OK
	}
	delete(p.files, name)
	wantErr(t, "Erase of "+name, p.tr.Erase(name), want)
}

// Many calls, in a long order that is the same each time, on trees that are cloned from one another.
func TestManyCalls(t *testing.T) {
	pairs := []pair{{tree.New(), map[string]string{}}}
	state := uint32(1)
	next := func(n int) int {
		state = state*1664525 + 1013904223
		return int(state>>16) % n
	}
	contents := []string{"", "x", "yy", "1:a", "1:b", "-", "+", "\xff", strings.Repeat("x", 2000), strings.Repeat("x", 2001)}
	fullOnce := false
	for range 4000 {
		p := pairs[next(len(pairs))]
		name := "f" + strconv.Itoa(next(80))
		switch next(9) {
		case 0:
			p.erase(t, name)
		case 1:
			p.write(t, name+"/", contents[next(len(contents))])
		case 2:
			pairs[next(len(pairs))] = pair{p.tr.Clone(), maps.Clone(p.files)}
			if len(pairs) < 4 {
				pairs = append(pairs, pair{p.tr.Clone(), maps.Clone(p.files)})
			}
		default:
			p.write(t, name, contents[next(len(contents))])
		}
		fullOnce = fullOnce || len(p.files) == 60
		for _, q := range pairs {
			wantFiles(t, "many calls", q.tr, q.files)
		}
		if t.Failed() {
			return
		}
	}
	if !fullOnce {
		t.Error("no tree was ever full")
	}
}

func TestHugeArguments(t *testing.T) {
	fs := make([]api.File, 0, 1<<18)
	for i := range cap(fs) {
		fs = append(fs, api.File{Name: strconv.Itoa(i % 1000), B: strconv.Itoa(i)})
	}
	tr := tree.New(fs...)
	if got := tr.Len(); got != 60 {
		t.Errorf("P3.1: New of very many files has %d", got)
	}
	if b, ok := tr.Read("59"); b != strconv.Itoa((1<<18)/1000*1000+59) || !ok {
		t.Errorf("P3.1: Read = %q, %v", b, ok)
	}
	long := strings.Repeat("a/", 1<<20)
	wantErr(t, "Write of a huge name", tr.Write(long, long), api.ErrForm)
	wantErr(t, "Write of huge contents", tr.Write("59", long), api.ErrMost)
	wantErr(t, "Erase of a huge name", tr.Erase(long), api.ErrNone)
	wantNone(t, tr, long)
}
