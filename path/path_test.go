package path_test

import (
	"bytes"
	"slices"
	"strings"
	"testing"

	"lighterage/api"
	"lighterage/path"
)

// nameByTheWords goes through the bytes, as the chapter's words do.
func nameByTheWords(s string) bool {
	for _, c := range []byte(s) {
		if c == 0 || c == '/' {
			return false
		}
	}
	return 1 <= len(s) && len(s) <= 24 && s != "." && s != ".."
}

// splitByTheWords goes through the errors of the promise in their row.
func splitByTheWords(p string) ([]string, api.Errno) {
	if p == "" {
		return nil, api.OK
	}
	l := strings.Split(p, "/")
	for _, s := range l {
		if !nameByTheWords(s) {
			return nil, api.ErrForm
		}
	}
	if len(l) > 6 {
		return nil, api.ErrRange
	}
	return l, api.OK
}

// compareByTheWords: name by name, byte by byte.
func compareByTheWords(a, b []string) int {
	for i := 0; i < len(a) && i < len(b); i++ {
		if n := bytes.Compare([]byte(a[i]), []byte(b[i])); n != 0 {
			return n
		}
	}
	return sign(len(a) - len(b))
}

func sign(n int) int {
	switch {
	case n < 0:
		return -1
	case n > 0:
		return 1
	}
	return 0
}

// someNames begin with each other, have bytes below and above /, and bytes that are of no rune.
var someNames = []string{"\x01", " ", "-", "...", "..a", ".a", "0", "a", "a\x01", "a-", "a.", "a.b", "a0", "aa", "ab", "b", "é", "\x7f", "\x80", "\xc0", "\xc0\xaf", "\xc0\x80", "\xff", "\xff\xff", strings.Repeat("a", 24), strings.Repeat("\xff", 24)}

// somePaths are the names of paths: none, one, all pairs, and some of each number up to six.
func somePaths() [][]string {
	l := [][]string{nil}
	for i, a := range someNames {
		l = append(l, []string{a})
		for _, b := range someNames {
			l = append(l, []string{a, b})
		}
		for n := 3; n <= 6; n++ {
			for _, step := range []int{0, 1, 5} {
				var p []string
				for k := range n {
					p = append(p, someNames[(i+k*step)%len(someNames)])
				}
				l = append(l, p)
			}
		}
	}
	return l
}

// texts are all texts of up to n of these pieces.
func texts(n int, pieces ...string) []string {
	l, last := []string{""}, []string{""}
	for range n {
		var next []string
		for _, a := range last {
			for _, b := range pieces {
				next = append(next, a+b)
			}
		}
		l, last = append(l, next...), next
	}
	return l
}

func splits(t *testing.T, p string, want []string, wantE api.Errno) {
	t.Helper()
	got, e := path.Split(p)
	if !slices.Equal(got, want) || e != wantE {
		t.Errorf("Split(%q) = %q, %v, want %q, %v", p, got, e, want, wantE)
	}
}

// P7.1: Name.

func TestNameOfKnownTexts(t *testing.T) {
	for _, s := range someNames {
		if !path.Name(s) {
			t.Errorf("Name(%q) = false", s)
		}
	}
	for _, s := range []string{"", ".", "..", "/", "//", "/a", "a/", "a/b", "./", "../", "\x00", "\x00a", "a\x00", "a\x00b", ".\x00"} {
		if path.Name(s) {
			t.Errorf("Name(%q) = true", s)
		}
	}
	for _, s := range []string{"...", "....", ".a", "a.", "..a", "a..", ". ", " .", ".-"} {
		if !path.Name(s) {
			t.Errorf("Name(%q) = false", s)
		}
	}
}

func TestNameOfEachByte(t *testing.T) {
	for c := range 256 {
		b := string([]byte{byte(c)})
		good := c != 0 && c != '/'
		for s, want := range map[string]bool{
			b:                               good && b != ".",
			"." + b:                         good && b != ".",
			b + ".":                         good && b != ".",
			"a" + b:                         good,
			b + "a":                         good,
			"\xe2" + b:                      good, // a rune that does not go on
			"\xf0\x9f" + b:                  good,
			strings.Repeat("a", 23) + b:     good,
			b + strings.Repeat("a", 23):     good,
			strings.Repeat("a", 24) + b:     false,
			strings.Repeat("\xe2\x82", 12):  true,
			strings.Repeat(b, 24):           good,
			strings.Repeat(b, 25):           false,
			"a" + b + "c":                   good,
			strings.Repeat("é", 11) + b:     good,
			strings.Repeat("é", 11) + b + b: good,
		} {
			if path.Name(s) != want {
				t.Errorf("Name(%q) = %v", s, !want)
			}
		}
	}
}

// It is bytes that are counted, not runes.
func TestNameOfEachSize(t *testing.T) {
	for n := range 80 {
		if got := path.Name(strings.Repeat("x", n)); got != (1 <= n && n <= 24) {
			t.Errorf("of %d bytes: %v", n, got)
		}
		if got := path.Name(strings.Repeat("é", n)); got != (1 <= n && n <= 12) {
			t.Errorf("of %d runes of two bytes: %v", n, got)
		}
		if got := path.Name(strings.Repeat("\xff", n)); got != (1 <= n && n <= 24) {
			t.Errorf("of %d bytes of no rune: %v", n, got)
		}
	}
	if path.Name(strings.Repeat("x", 1<<20)) {
		t.Error("of 2^20 bytes")
	}
}

func TestNameOfAllShortTexts(t *testing.T) {
	for _, s := range texts(5, "a", ".", "/", "\x00", "\xc3", "\xaf", "-") {
		if path.Name(s) != nameByTheWords(s) {
			t.Errorf("Name(%q) = %v", s, path.Name(s))
		}
	}
}

// P7.1: Split.

func TestSplitOfKnownTexts(t *testing.T) {
	splits(t, "", nil, api.OK)
	splits(t, "a", []string{"a"}, api.OK)
	splits(t, "a/b", []string{"a", "b"}, api.OK)
	splits(t, "a/a", []string{"a", "a"}, api.OK)
	splits(t, ".../.a/a.", []string{"...", ".a", "a."}, api.OK)
	splits(t, "é/\xff/\xe2", []string{"é", "\xff", "\xe2"}, api.OK)
	splits(t, "\\/a\\b", []string{"\\", "a\\b"}, api.OK)
	name := strings.Repeat("x", 24)
	splits(t, strings.Repeat(name+"/", 5)+name, []string{name, name, name, name, name, name}, api.OK)
}

func TestSplitRefusesPiecesThatAreNoNames(t *testing.T) {
	for _, bad := range []string{"", ".", "..", "\x00", "a\x00", strings.Repeat("x", 25)} {
		if bad != "" { // alone it is the path of none
			splits(t, bad, nil, api.ErrForm)
		}
		for n := range 12 {
			for k := range n + 1 {
				l := slices.Repeat([]string{"a"}, n+1)
				l[k] = bad
				if p := strings.Join(l, "/"); p != "" {
					splits(t, p, nil, api.ErrForm) // also where there are more than six
				}
			}
		}
	}
	for _, p := range []string{"/", "//", "///", "//////", "///////", "/a", "a/", "a//b", "/a/b", "a/b/", "./a", "a/.", "../a", "a/..", "a/../b"} {
		splits(t, p, nil, api.ErrForm)
	}
}

func TestSplitRefusesMoreThanSix(t *testing.T) {
	for n := 1; n < 40; n++ {
		l := slices.Repeat([]string{"a"}, n)
		if n <= 6 {
			splits(t, strings.Join(l, "/"), l, api.OK)
		} else {
			splits(t, strings.Join(l, "/"), nil, api.ErrRange)
		}
	}
	splits(t, strings.Repeat("a/", 100000)+"a", nil, api.ErrRange)
	splits(t, strings.Repeat("a/", 100000), nil, api.ErrForm)
	splits(t, strings.Repeat("a/", 100000)+"..", nil, api.ErrForm)
	splits(t, "./"+strings.Repeat("a/", 100000)+"a", nil, api.ErrForm)
}

func TestSplitOfAllShortTexts(t *testing.T) {
	count := map[api.Errno]int{}
	look := func(p string) {
		want, wantE := splitByTheWords(p)
		splits(t, p, want, wantE)
		count[wantE]++
	}
	for _, p := range texts(5, "a", "b.", ".", "/", "\x00", "\xff") {
		look(p)
	}
	for _, p := range texts(13, "a", "/") {
		look(p)
	}
	for _, p := range texts(8, "a/", "/", ".") {
		look(p + "a")
	}
	for _, e := range []api.Errno{api.OK, api.ErrForm, api.ErrRange} {
		if count[e] < 3 {
			t.Errorf("%v is told %d times", e, count[e])
		}
	}
}

func TestSplitAnswersNewLists(t *testing.T) {
	a, _ := path.Split("a/b/c")
	b, _ := path.Split("a/b/c")
	for i := range a {
		a[i] = "x"
	}
	_ = append(a[:1], "y", "y")
	if !slices.Equal(b, []string{"a", "b", "c"}) {
		t.Errorf("another one's list: %q", b)
	}
	splits(t, "a/b/c", []string{"a", "b", "c"}, api.OK)
}

// P7.1: Join.

func TestJoinOfKnownNames(t *testing.T) {
	for _, x := range []struct {
		names []string
		want  string
	}{
		{nil, ""},
		{[]string{}, ""},
		{[]string{""}, ""},
		{[]string{"", ""}, "/"},
		{[]string{"", "", ""}, "//"},
		{[]string{"a"}, "a"},
		{[]string{"a", "b"}, "a/b"},
		{[]string{"a", "", "b"}, "a//b"},
		{[]string{"", "a"}, "/a"},
		{[]string{"a", ""}, "a/"},
		{[]string{"/"}, "/"},
		{[]string{"/", "/"}, "///"},
		{[]string{"a/b", "c"}, "a/b/c"},
		{[]string{".", "..", "\x00", "\xff"}, "./../\x00/\xff"},
		{slices.Repeat([]string{"a"}, 9), "a/a/a/a/a/a/a/a/a"},
		{[]string{strings.Repeat("x", 30), "y"}, strings.Repeat("x", 30) + "/y"},
	} {
		if got := path.Join(x.names...); got != x.want {
			t.Errorf("Join(%q) = %q, want %q", x.names, got, x.want)
		}
	}
	if path.Join() != "" || path.Join("a") != "a" || path.Join("a", "b", "c") != "a/b/c" {
		t.Error("Join of names one by one")
	}
}

// R4.
func TestJoinLeavesItsNames(t *testing.T) {
	room := []string{"a", "", "b/c", "spare", "spare"}
	before := slices.Clone(room)
	got := path.Join(room[:3]...)
	if got != "a//b/c" || !slices.Equal(room, before) {
		t.Errorf("%q, and %q is left", got, room)
	}
	room[0], room[2] = "x", "x"
	if got != "a//b/c" {
		t.Errorf("changed with its names: %q", got)
	}
}

// P7.2: Compare.

func TestCompareOfKnownPaths(t *testing.T) {
	l := []string{"", "\x01", "\x01/b", "-", "-/a", "a", "a/\x01", "a/a", "a/a/a", "a/a\x01", "a/a-", "a/aa", "a/b", "a/\xff", "a\x01", "a\x01/a", "a-", "a-/b", "a.b", "a.b/c", "a0", "aa", "aa/a", "ab", "b", "b/a", "\x7f", "\x80", "é", "é/a", "é-", "\xff", "\xff/\xff"}
	for i, a := range l {
		for k, b := range l {
			if got := path.Compare(a, b); got != sign(i-k) {
				t.Errorf("Compare(%q, %q) = %d, want %d", a, b, got, sign(i-k))
			}
		}
	}
}

// Each byte of a name stands behind the end of the name, also those that stand ahead of / among the bytes.
func TestCompareOfEachByte(t *testing.T) {
	for c := 1; c < 256; c++ {
		if c == '/' {
			continue
		}
		b := "a" + string([]byte{byte(c)})
		for _, under := range []string{"a", "a/b", "a/\xff", "a/\xff/\xff", "a/\x01"} {
			if path.Compare(under, b) != -1 || path.Compare(b, under) != 1 || path.Compare("x/"+under, "x/"+b) != -1 {
				t.Errorf("%q and %q", under, b)
			}
		}
		for d := 1; d < 256; d++ {
			if d == '/' || c == '.' || d == '.' {
				continue
			}
			e := "a" + string([]byte{byte(d)})
			if got := path.Compare(b, e); got != sign(c-d) {
				t.Errorf("Compare(%q, %q) = %d", b, e, got)
			}
			if got := path.Compare(b[1:]+"/z", e[1:]+"/a"); c != d && got != sign(c-d) {
				t.Errorf("Compare(%q, %q) = %d", b[1:]+"/z", e[1:]+"/a", got)
			}
		}
	}
}

func TestCompareOfManyPaths(t *testing.T) {
	l := somePaths()
	for _, a := range l {
		for _, b := range l {
			if got, want := path.Compare(strings.Join(a, "/"), strings.Join(b, "/")), compareByTheWords(a, b); got != want {
				t.Fatalf("Compare(%q, %q) = %d, want %d", a, b, got, want)
			}
		}
	}
}

// P7.2: Under.

func TestUnderOfKnownPaths(t *testing.T) {
	for _, x := range []struct {
		p, dir string
		want   bool
	}{
		{"", "", false},
		{"a", "", true},
		{"a/b", "", true},
		{"", "a", false},
		{"a", "a", false},
		{"a/b", "a", true},
		{"a/b/c", "a", true},
		{"a/b/c", "a/b", true},
		{"a/b/c", "a/b/c", false},
		{"a/b", "a/b/c", false},
		{"a/b", "b", false},
		{"a/b", "a/c", false},
		{"a/b/c", "a/c", false},
		{"a/b/c", "b/b", false},
		{"a/b/c", "b", false},
		{"ab", "a", false},
		{"ab/c", "a", false},
		{"a/bc", "a/b", false},
		{"a/bc/d", "a/b", false},
		{"a.b/c", "a", false},
		{"A/b", "a", false},
		{"a/b/c/d/e/f", "a/b/c/d/e", true},
		{"a/b/c/d/e/f", "a/b/c/d/x", false},
		{"a/b/c/d/e/f", "a/b/c/d/e/f", false},
	} {
		if got := path.Under(x.p, x.dir); got != x.want {
			t.Errorf("Under(%q, %q) = %v", x.p, x.dir, got)
		}
	}
}

func TestUnderOfManyPaths(t *testing.T) {
	l, count := somePaths(), 0
	for _, a := range l {
		for _, b := range l {
			want := len(a) > len(b) && slices.Equal(a[:len(b)], b)
			if got := path.Under(strings.Join(a, "/"), strings.Join(b, "/")); got != want {
				t.Fatalf("Under(%q, %q) = %v", a, b, got)
			}
			if want && len(b) > 0 {
				count++
			}
		}
	}
	if count < 500 {
		t.Errorf("only %d are under others", count)
	}
}

// P7.2: Parent and Base.

func TestParentAndBaseOfKnownPaths(t *testing.T) {
	for _, x := range []struct{ p, parent, base string }{
		{"", "", ""},
		{"a", "", "a"},
		{"ab", "", "ab"},
		{"...", "", "..."},
		{"a/b", "a", "b"},
		{"a/a", "a", "a"},
		{"a/b/c", "a/b", "c"},
		{"a.b/c.d", "a.b", "c.d"},
		{"é/\xff", "é", "\xff"},
		{"a/b/c/d/e/f", "a/b/c/d/e", "f"},
	} {
		if parent, base := path.Parent(x.p), path.Base(x.p); parent != x.parent || base != x.base {
			t.Errorf("of %q: %q and %q, want %q and %q", x.p, parent, base, x.parent, x.base)
		}
	}
}

func TestParentAndBaseOfManyPaths(t *testing.T) {
	for _, l := range somePaths()[1:] {
		p, last := strings.Join(l, "/"), len(l)-1
		if got := path.Parent(p); got != strings.Join(l[:last], "/") {
			t.Errorf("Parent(%q) = %q", p, got)
		}
		if got := path.Base(p); got != l[last] {
			t.Errorf("Base(%q) = %q", p, got)
		}
		if !path.Under(p, path.Parent(p)) {
			t.Errorf("%q is not under its parent", p)
		}
	}
}

// Texts that are no paths may be handed in too: each call answers.
func TestNoTextPanics(t *testing.T) {
	l := texts(3, "a", ".", "/", "\x00", "\xff")
	l = append(l, strings.Repeat("/", 10000), strings.Repeat("a/", 10000), strings.Repeat("a", 10000))
	for _, a := range l {
		_, _ = path.Parent(a), path.Base(a)
		for _, b := range l {
			if n := path.Compare(a, b); n < -1 || n > 1 {
				t.Errorf("Compare(%q, %q) = %d", a, b, n)
			}
			_ = path.Under(a, b)
		}
	}
}

// P7.3.

func TestWhatIsJoinedIsSplitAgain(t *testing.T) {
	for _, l := range somePaths() {
		splits(t, path.Join(l...), l, api.OK)
	}
	for n := range 10 {
		l := someNames[:n]
		if p := path.Join(l...); n <= 6 {
			splits(t, p, l, api.OK)
		} else {
			splits(t, p, nil, api.ErrRange)
		}
	}
}

// goThrough tells the paths of all names below dir, each directory ahead of what is under it, down to depth.
func goThrough(dir []string, names []string, depth int, tell func(p string)) {
	tell(path.Join(dir...))
	if len(dir) == depth {
		return
	}
	for _, s := range names {
		goThrough(append(slices.Clone(dir), s), names, depth, tell)
	}
}

func TestPathsStandAsTheyAreGoneThrough(t *testing.T) {
	names := slices.Clone(someNames)
	slices.Sort(names)
	few := []string{"-", "a", "a-", "aa"}
	for _, x := range []struct {
		names []string
		depth int
	}{{names, 2}, {few, 6}, {[]string{"a", "a.b"}, 6}} {
		var rows []string
		goThrough(nil, x.names, x.depth, func(p string) { rows = append(rows, p) })
		for i := range rows[1:] {
			if path.Compare(rows[i], rows[i+1]) != -1 || path.Compare(rows[i+1], rows[i]) != 1 {
				t.Errorf("%q is gone through ahead of %q", rows[i], rows[i+1])
			}
		}
		turned := slices.Clone(rows)
		slices.Reverse(turned)
		slices.SortFunc(turned, path.Compare)
		if !slices.Equal(turned, rows) {
			t.Error("sorted they stand otherwise")
		}
	}
}

// What is under a directory stands behind it, and nothing else stands between.
func TestDirectoriesStandAheadOfWhatIsUnder(t *testing.T) {
	var rows []string
	for _, l := range somePaths() {
		rows = append(rows, path.Join(l...))
	}
	slices.SortFunc(rows, path.Compare)
	rows = slices.Compact(rows)
	for i, dir := range rows {
		inside := true
		for _, p := range rows[i+1:] {
			under := path.Under(p, dir)
			if under && (!inside || path.Compare(dir, p) != -1) {
				t.Fatalf("%q is under %q, and stands apart", p, dir)
			}
			inside = inside && under
		}
		for _, p := range rows[:i] {
			if path.Under(p, dir) {
				t.Fatalf("%q stands ahead of %q", p, dir)
			}
		}
	}
}
