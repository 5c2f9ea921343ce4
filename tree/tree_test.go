package tree_test

import (
	"reflect"
	"runtime/debug"
	"slices"
	"sort"
	"strings"
	"testing"

	"lighterage/api"
	"lighterage/path"
	"lighterage/tree"
)

func dir(name string, kids ...api.Node) api.Node {
	return api.Node{Kind: api.Dir, Name: name, Kids: kids}
}

func file(name, data string) api.Node {
	return api.Node{Kind: api.File, Name: name, Data: []byte(data)}
}

func link(name, target string) api.Node {
	return api.Node{Kind: api.Link, Name: name, Target: target}
}

func device(name string, major, minor int) api.Node {
	return api.Node{Kind: api.Device, Name: name, Major: major, Minor: minor}
}

// with is a node that is changed, one that shares no list with it.
func with(n api.Node, change func(n *api.Node)) api.Node {
	c := cloneByTheWords(n)
	change(&c)
	return c
}

// sample is a tree that may be, of all kinds, in which each field is something somewhere.
func sample() api.Node {
	return api.Node{Kind: api.Dir, Mode: 493, Mtime: 7, Attrs: []api.Attr{{Key: "r", Value: "root"}}, Kids: []api.Node{
		dir("a",
			file("x", "1"),
			dir("y", link("deep", "../x"), device("e", 1, 2)),
			api.Node{Kind: api.Link, Name: "z", Mode: 511, UID: 1, GID: 2, Mtime: 3, Target: "a/x", Attrs: []api.Attr{{Key: "k"}}}),
		api.Node{Kind: api.File, Name: "a.b", Mode: 420, UID: 5, GID: 6, Mtime: 1 << 40, Data: []byte{0, 255}},
		dir("b"),
		api.Node{Kind: api.Device, Name: "d", Major: 255, Minor: 3, Attrs: []api.Attr{{Key: "k", Value: "v"}, {Key: "l"}}},
		file("é", ""),
	}}
}

// chain is directories within each other: it is so deep.
func chain(depth int) api.Node {
	n := dir("a")
	for range depth {
		n = dir("a", n)
	}
	n.Name = ""
	return n
}

// wide is a root with so many nodes, itself too.
func wide(nodes int) api.Node {
	var kids []api.Node
	for i := range nodes - 1 {
		kids = append(kids, file(string([]byte{byte('a' + i/26%26), byte('a' + i%26)}), ""))
	}
	return dir("", kids...)
}

// A source of numbers that is the same in each run.
type source uint64

func (s *source) below(n int) int {
	*s = *s*6364136223846793005 + 1442695040888963407
	return int(uint64(*s) >> 33 % uint64(n))
}

// someNames begin with each other, and have bytes below and above / and letters.
var someNames = []string{"\x01", "-", "...", "a", "a-", "a.b", "aa", "b", "é", "\x7f", "\xff", strings.Repeat("n", 24)}

// node is one of any kind, whose own fields may be.
func (s *source) node(name string) api.Node {
	n := api.Node{Kind: 1 + s.below(4), Name: name, Mode: s.below(4096), UID: s.below(1 << 31), GID: s.below(1 << 31), Mtime: s.below(1 << 30)}
	for _, key := range s.names(s.below(5)) {
		n.Attrs = append(n.Attrs, api.Attr{Key: key, Value: strings.Repeat("v", s.below(25))})
	}
	switch n.Kind {
	case api.File:
		n.Data = slices.Repeat([]byte{byte(s.below(256))}, s.below(6))
	case api.Link:
		n.Target = strings.Repeat("t", 1+s.below(64))
	case api.Device:
		n.Major, n.Minor = s.below(256), s.below(256)
	}
	return n
}

// names are at most so many, which rise.
func (s *source) names(most int) []string {
	var l []string
	for range most {
		l = append(l, someNames[s.below(len(someNames))])
	}
	slices.Sort(l)
	return slices.Compact(l)
}

// tree is one that may be, with most nodes below the root at most.
func (s *source) tree(most int) api.Node {
	n := s.node("")
	for n.Kind != api.Dir {
		n = s.node("")
	}
	s.kids(&n, 1, &most)
	return n
}

func (s *source) kids(n *api.Node, depth int, most *int) {
	if n.Kind != api.Dir || depth > 6 {
		return
	}
	for _, name := range s.names(s.below(9)) {
		if *most == 0 {
			return
		}
		*most--
		n.Kids = append(n.Kids, s.node(name))
	}
	for i := range n.Kids {
		s.kids(&n.Kids[i], depth+1, most)
	}
}

// wild is a node with kids of any kind and in any row, also under what is no directory, and of one name.
func (s *source) wild(name string, depth int) api.Node {
	n := s.node(name)
	n.Kind, n.Mode, n.Minor = s.below(7)-1, s.below(9)-4, s.below(3)-1
	if depth > 0 {
		for range s.below(5) {
			n.Kids = append(n.Kids, s.wild(someNames[s.below(5)], depth-1))
		}
	}
	return n
}

// someTrees are trees that may be.
func someTrees() []api.Node {
	s := source(1)
	l := []api.Node{dir(""), sample(), chain(6), wide(64)}
	for i := range 400 {
		l = append(l, s.tree(i%64))
	}
	return l
}

// anyNodes are trees that may be, and others.
func anyNodes() []api.Node {
	s := source(2)
	l := append(someTrees(), api.Node{}, file("a", "b"), chain(9), wide(99))
	for range 400 {
		l = append(l, s.wild(someNames[s.below(5)], s.below(5)))
	}
	return l
}

// The words of the chapter, by calls within calls.

func nameByTheWords(s string) bool {
	return 1 <= len(s) && len(s) <= 24 && !strings.ContainsAny(s, "\x00/") && s != "." && s != ".."
}

func ownByTheWords(n api.Node) bool {
	if n.Mode < 0 || n.Mode > 4095 || n.UID < 0 || n.UID > 2147483647 || n.GID < 0 || n.GID > 2147483647 || n.Mtime < 0 || n.Mtime > 1099511627776 || len(n.Attrs) > 4 {
		return false
	}
	for i, a := range n.Attrs {
		if !nameByTheWords(a.Key) || len(a.Value) > 24 || i > 0 && n.Attrs[i-1].Key >= a.Key {
			return false
		}
	}
	kids, data, target, numbers := len(n.Kids) > 0, len(n.Data) > 0, n.Target != "", n.Major != 0 || n.Minor != 0
	switch n.Kind {
	case 1:
		return !data && !target && !numbers
	case 2:
		return !kids && !target && !numbers && len(n.Data) <= 4096
	case 3:
		return !kids && !data && !numbers && target && len(n.Target) <= 64 && !strings.Contains(n.Target, "\x00")
	case 4:
		return !kids && !data && !target && 0 <= n.Major && n.Major <= 255 && 0 <= n.Minor && n.Minor <= 255
	}
	return false
}

func formByTheWords(n api.Node) bool {
	for i, k := range n.Kids {
		if !nameByTheWords(k.Name) || !formByTheWords(k) || i > 0 && n.Kids[i-1].Name >= k.Name {
			return false
		}
	}
	return ownByTheWords(n)
}

func mayByTheWords(n api.Node) api.Errno {
	if n.Kind != 1 || n.Name != "" || !formByTheWords(n) {
		return 2
	}
	if depthByTheWords(n) > 6 || countByTheWords(n) > 64 {
		return 3
	}
	return 0
}

func countByTheWords(n api.Node) int {
	count := 1
	for _, k := range n.Kids {
		count += countByTheWords(k)
	}
	return count
}

func depthByTheWords(n api.Node) int {
	deep := 0
	for _, k := range n.Kids {
		deep = max(deep, 1+depthByTheWords(k))
	}
	return deep
}

// walkByTheWords tells all nodes, with their kids, by their paths.
func walkByTheWords(n api.Node, p string, tell func(p string, n api.Node)) {
	tell(p, n)
	for _, k := range n.Kids {
		if p == "" {
			walkByTheWords(k, k.Name, tell)
		} else {
			walkByTheWords(k, p+"/"+k.Name, tell)
		}
	}
}

// cloneByTheWords makes each list that is empty nil, so that DeepEqual takes nil and empty ones for one.
func cloneByTheWords(n api.Node) api.Node {
	c := n
	c.Data, c.Attrs, c.Kids = append([]byte(nil), n.Data...), append([]api.Attr(nil), n.Attrs...), nil
	for _, k := range n.Kids {
		c.Kids = append(c.Kids, cloneByTheWords(k))
	}
	return c
}

func sameByTheWords(a, b api.Node) bool {
	return reflect.DeepEqual(cloneByTheWords(a), cloneByTheWords(b))
}

func sortByTheWords(n api.Node) api.Node {
	c := cloneByTheWords(n)
	for i, k := range c.Kids {
		c.Kids[i] = sortByTheWords(k)
	}
	sort.SliceStable(c.Kids, func(i, k int) bool { return c.Kids[i].Name < c.Kids[k].Name })
	return c
}

func same(t *testing.T, got, want api.Node) {
	t.Helper()
	if !sameByTheWords(got, want) {
		t.Errorf("%+v, want %+v", got, want)
	}
}

// sameEntries also holds for entries without kids only.
func sameEntries(t *testing.T, got, want []tree.Entry) {
	t.Helper()
	if len(got) != len(want) {
		t.Fatalf("%d entries, want %d", len(got), len(want))
	}
	for i := range got {
		if got[i].Path != want[i].Path || !sameByTheWords(got[i].Node, want[i].Node) {
			t.Errorf("entry %d: %+v, want %+v", i, got[i], want[i])
		}
	}
}

// spoil changes everything that can be reached from a node, spare room too.
func spoil(n *api.Node) {
	for i := range n.Data[:cap(n.Data)] {
		n.Data[:cap(n.Data)][i] ^= 255
	}
	for i := range n.Attrs[:cap(n.Attrs)] {
		n.Attrs[:cap(n.Attrs)][i].Key += "?"
		n.Attrs[:cap(n.Attrs)][i].Value += "?"
	}
	for i := range n.Kids[:cap(n.Kids)] {
		k := &n.Kids[:cap(n.Kids)][i]
		spoil(k)
		k.Name, k.Kind = k.Name+"?", k.Kind+1
	}
}

// roomy is the same node, each of whose lists has spare room with something in it.
func roomy(n api.Node) api.Node {
	n.Data = append(append(make([]byte, 0, len(n.Data)+9), n.Data...), 7, 8, 9)[:len(n.Data)]
	n.Attrs = append(append(make([]api.Attr, 0, len(n.Attrs)+9), n.Attrs...), api.Attr{Key: "spare", Value: "room"})[:len(n.Attrs)]
	kids := make([]api.Node, 0, len(n.Kids)+3)
	for _, k := range n.Kids {
		kids = append(kids, roomy(k))
	}
	n.Kids = append(kids, file("spare", "room"))[:len(n.Kids)]
	return n
}

// inFull is a node with the spare room of its lists.
func inFull(n api.Node) api.Node {
	n.Data, n.Attrs, n.Kids = slices.Clone(n.Data[:cap(n.Data)]), slices.Clone(n.Attrs[:cap(n.Attrs)]), slices.Clone(n.Kids[:cap(n.Kids)])
	for i := range n.Kids {
		n.Kids[i] = inFull(n.Kids[i])
	}
	return n
}

// P8.1: May.

func TestMayOfTreesThatMayBe(t *testing.T) {
	for i, n := range someTrees() {
		if e := tree.May(n); e != api.OK || mayByTheWords(n) != api.OK {
			t.Errorf("tree %d: %v", i, e)
		}
	}
}

func TestMayOfAnyNodes(t *testing.T) {
	for i, n := range anyNodes() {
		if got, want := tree.May(n), mayByTheWords(n); got != want {
			t.Errorf("node %d: %v, want %v", i, got, want)
		}
	}
	if e := tree.May(api.Node{}); e != api.ErrForm {
		t.Errorf("the zero node: %v", e)
	}
}

// ownFields are changes of a node's own fields, and the kinds with which they may be.
var ownFields = []struct {
	what   string
	change func(n *api.Node)
	kinds  string
}{
	{"nothing", func(n *api.Node) {}, "1234"},
	{"mode -1", func(n *api.Node) { n.Mode = -1 }, ""},
	{"mode 4095", func(n *api.Node) { n.Mode = 4095 }, "1234"},
	{"mode 4096", func(n *api.Node) { n.Mode = 4096 }, ""},
	{"uid -1", func(n *api.Node) { n.UID = -1 }, ""},
	{"uid 2^31-1", func(n *api.Node) { n.UID = 1<<31 - 1 }, "1234"},
	{"uid 2^31", func(n *api.Node) { n.UID = 1 << 31 }, ""},
	{"gid -1", func(n *api.Node) { n.GID = -1 }, ""},
	{"gid 2^31-1", func(n *api.Node) { n.GID = 1<<31 - 1 }, "1234"},
	{"gid 2^31", func(n *api.Node) { n.GID = 1 << 31 }, ""},
	{"gid 2^32", func(n *api.Node) { n.GID = 1 << 32 }, ""},
	{"mtime -1", func(n *api.Node) { n.Mtime = -1 }, ""},
	{"mtime 2^40", func(n *api.Node) { n.Mtime = 1 << 40 }, "1234"},
	{"mtime 2^40+1", func(n *api.Node) { n.Mtime = 1<<40 + 1 }, ""},
	{"mtime least", func(n *api.Node) { n.Mtime = -1 << 63 }, ""},
	{"mtime most", func(n *api.Node) { n.Mtime = 1<<63 - 1 }, ""},
	{"empty attrs", func(n *api.Node) { n.Attrs = []api.Attr{} }, "1234"},
	{"four attrs", func(n *api.Node) { n.Attrs = attrs("a", "b", "c", "d") }, "1234"},
	{"five attrs", func(n *api.Node) { n.Attrs = attrs("a", "b", "c", "d", "e") }, ""},
	{"keys that do not rise first", func(n *api.Node) { n.Attrs = attrs("b", "a", "c") }, ""},
	{"keys that do not rise last", func(n *api.Node) { n.Attrs = attrs("a", "c", "b") }, ""},
	{"one key first", func(n *api.Node) { n.Attrs = attrs("a", "a", "b") }, ""},
	{"one key last", func(n *api.Node) { n.Attrs = attrs("a", "b", "b") }, ""},
	{"keys byte by byte", func(n *api.Node) { n.Attrs = attrs("B", "a", "a.b", "\xff") }, "1234"},
	{"keys by letters", func(n *api.Node) { n.Attrs = attrs("a", "B") }, ""},
	{"empty key", func(n *api.Node) { n.Attrs = attrs("") }, ""},
	{"key .", func(n *api.Node) { n.Attrs = attrs(".", "a") }, ""},
	{"key ..", func(n *api.Node) { n.Attrs = attrs("..") }, ""},
	{"key with /", func(n *api.Node) { n.Attrs = attrs("a", "a/b") }, ""},
	{"key with 0", func(n *api.Node) { n.Attrs = attrs("a", "b\x00", "c") }, ""},
	{"key of 24", func(n *api.Node) { n.Attrs = attrs(strings.Repeat("k", 24)) }, "1234"},
	{"key of 25", func(n *api.Node) { n.Attrs = attrs(strings.Repeat("k", 25)) }, ""},
	{"value of 24", func(n *api.Node) { n.Attrs = []api.Attr{{Key: "k", Value: strings.Repeat("/\x00", 12)}} }, "1234"},
	{"value of 25", func(n *api.Node) { n.Attrs = []api.Attr{{Key: "k", Value: strings.Repeat("v", 25)}} }, ""},
	{"last value of 25", func(n *api.Node) {
		n.Attrs = []api.Attr{{Key: "a"}, {Key: "k", Value: strings.Repeat("v", 25)}}
	}, ""},
	{"a kid", func(n *api.Node) { n.Kids = []api.Node{file("k", "")} }, "1"},
	{"empty kids", func(n *api.Node) { n.Kids = []api.Node{} }, "1234"},
	{"empty data", func(n *api.Node) { n.Data = []byte{} }, "1234"},
	{"data", func(n *api.Node) { n.Data = []byte{0} }, "2"},
	{"data of 4096", func(n *api.Node) { n.Data = make([]byte, 4096) }, "2"},
	{"data of 4097", func(n *api.Node) { n.Data = make([]byte, 4097) }, ""},
	{"no target", func(n *api.Node) { n.Target = "" }, "124"},
	{"target", func(n *api.Node) { n.Target = "t" }, "3"},
	{"target of any bytes", func(n *api.Node) { n.Target = "/../\xff//." }, "3"},
	{"target of 64", func(n *api.Node) { n.Target = strings.Repeat("t", 64) }, "3"},
	{"target of 65", func(n *api.Node) { n.Target = strings.Repeat("t", 65) }, ""},
	{"target 0", func(n *api.Node) { n.Target = "\x00" }, ""},
	{"target with 0 first", func(n *api.Node) { n.Target = "\x00tt" }, ""},
	{"target with 0 last", func(n *api.Node) { n.Target = strings.Repeat("t", 63) + "\x00" }, ""},
	{"major -1", func(n *api.Node) { n.Major = -1 }, ""},
	{"major 1", func(n *api.Node) { n.Major = 1 }, "4"},
	{"major 255", func(n *api.Node) { n.Major = 255 }, "4"},
	{"major 256", func(n *api.Node) { n.Major = 256 }, ""},
	{"minor -1", func(n *api.Node) { n.Minor = -1 }, ""},
	{"minor 1", func(n *api.Node) { n.Minor = 1 }, "4"},
	{"minor 255", func(n *api.Node) { n.Minor = 255 }, "4"},
	{"minor 256", func(n *api.Node) { n.Minor = 256 }, ""},
	{"data and target", func(n *api.Node) { n.Data, n.Target = []byte("d"), "t" }, ""},
	{"numbers and data", func(n *api.Node) { n.Data, n.Major, n.Minor = []byte("d"), 1, 1 }, ""},
}

func attrs(keys ...string) []api.Attr {
	var l []api.Attr
	for _, k := range keys {
		l = append(l, api.Attr{Key: k, Value: "v"})
	}
	return l
}

func TestMayOfOwnFields(t *testing.T) {
	for _, base := range []api.Node{dir("m"), file("m", ""), link("m", "t"), device("m", 0, 0)} {
		kind := string(rune('0' + base.Kind))
		for _, x := range ownFields {
			n, want := with(base, x.change), api.ErrForm
			if strings.Contains(x.kinds, kind) {
				want = api.OK
			}
			roots := []api.Node{
				dir("", n),
				dir("", file("a", ""), n),
				dir("", n, file("z", "")),
				dir("", dir("a", dir("b", dir("c", n)), file("d", ""))),
			}
			if base.Kind == api.Dir {
				n.Name = ""
				roots = append(roots, n)
			}
			for i, root := range roots {
				if got := tree.May(root); got != want || mayByTheWords(root) != want {
					t.Errorf("kind %s, %s, root %d: %v, want %v", kind, x.what, i, got, want)
				}
			}
		}
	}
}

func TestMayOfKinds(t *testing.T) {
	for kind := -3; kind < 300; kind++ {
		want := api.ErrForm
		if kind == 1 || kind == 2 || kind == 4 {
			want = api.OK
		}
		if got := tree.May(dir("", api.Node{Kind: kind, Name: "a"})); got != want {
			t.Errorf("kind %d: %v, want %v", kind, got, want)
		}
		if got := tree.May(api.Node{Kind: kind}); (got == api.OK) != (kind == 1) || got != api.OK && got != api.ErrForm {
			t.Errorf("a root of kind %d: %v", kind, got)
		}
	}
	if e := tree.May(link("", "t")); e != api.ErrForm {
		t.Errorf("a link as root: %v", e)
	}
}

func TestMayOfNames(t *testing.T) {
	for _, s := range []string{"", ".", "..", "/", "a/b", "\x00", "a\x00", strings.Repeat("x", 25)} {
		for i, root := range []api.Node{dir("", file(s, "")), dir("", dir(s)), dir("", dir("a", dir("b", link(s, "t")))), dir("", dir(s, file("a", "")))} {
			if e := tree.May(root); e != api.ErrForm {
				t.Errorf("the name %q, %d: %v", s, i, e)
			}
		}
	}
	for _, s := range someNames {
		if e := tree.May(dir("", dir(s, dir(s, file(s, ""))))); e != api.OK {
			t.Errorf("the name %q: %v", s, e)
		}
		if e := tree.May(dir(s)); e != api.ErrForm {
			t.Errorf("a root with the name %q: %v", s, e)
		}
	}
}

func TestMayOfTheRowOfKids(t *testing.T) {
	l := slices.Clone(someNames)
	slices.Sort(l)
	for i, a := range l {
		for k, b := range l {
			want := api.ErrForm
			if i < k {
				want = api.OK
			}
			for where, root := range []api.Node{
				dir("", file(a, ""), file(b, "")),
				dir("", dir("q", dir(a), file(b, ""))),
				dir("", dir("a", dir("q", dir(a), dir(b)))),
			} {
				if got := tree.May(root); got != want {
					t.Errorf("%q ahead of %q, %d: %v", a, b, where, got)
				}
			}
		}
	}
	for _, names := range []string{"acb", "bac", "abb", "aab", "cab", "bca"} {
		if e := tree.May(dir("", file(names[:1], ""), file(names[1:2], ""), file(names[2:], ""))); e != api.ErrForm {
			t.Errorf("%s: %v", names, e)
		}
	}
}

func TestMayOfDepthAndNumber(t *testing.T) {
	for depth := range 20 {
		want := api.OK
		if depth > 6 {
			want = api.ErrRange
		}
		for i, n := range []api.Node{chain(depth), with(chain(depth), func(n *api.Node) { n.Kids = append(n.Kids, file("b", "")) })} {
			if got := tree.May(n); got != want {
				t.Errorf("%d deep, %d: %v", depth, i, got)
			}
		}
	}
	for nodes := 1; nodes < 200; nodes++ {
		want := api.OK
		if nodes > 64 {
			want = api.ErrRange
		}
		if got := tree.May(wide(nodes)); got != want {
			t.Errorf("%d nodes: %v", nodes, got)
		}
	}
	many := wide(33).Kids // within two directories
	if e := tree.May(dir("", dir("a", many[:31]...), dir("b", many[:30]...))); e != api.OK {
		t.Errorf("64 nodes: %v", e)
	}
	if e := tree.May(dir("", dir("a", many[:31]...), dir("b", many[:31]...))); e != api.ErrRange {
		t.Errorf("65 nodes: %v", e)
	}
}

// What is not of its form is told ahead, wherever it stands.
func TestMayTellsFormAheadOfRange(t *testing.T) {
	bad := api.Node{Kind: api.File, Name: "zz", Mode: -1}
	deepBad := bad
	for range 20 {
		deepBad = dir("a", deepBad)
	}
	for i, n := range []api.Node{
		dir("", deepBad),
		dir("", append(wide(100).Kids, bad)...),
		with(wide(100), func(n *api.Node) { n.Kids[0].Name = "ab" }),
		with(wide(100), func(n *api.Node) { n.Kids[98].Name = n.Kids[97].Name }),
		with(wide(100), func(n *api.Node) { n.Name = "r" }),
		with(chain(9), func(n *api.Node) { n.Kind = api.File }),
		dir("", chain(9).Kids[0], bad),
		dir("", dir("a", chain(9).Kids...), dir("b", file("b", ""), file("a", ""))),
	} {
		if e := tree.May(n); e != api.ErrForm {
			t.Errorf("%d: %v", i, e)
		}
	}
}

// P8.1: Count and Depth.

func TestCountAndDepthOfKnownNodes(t *testing.T) {
	for i, x := range []struct {
		n            api.Node
		count, depth int
	}{
		{api.Node{}, 1, 0},
		{dir(""), 1, 0},
		{file("a", "b"), 1, 0},
		{dir("", file("a", "")), 2, 1},
		{dir("", dir("a"), dir("b")), 3, 1},
		{dir("", dir("a", file("x", "")), dir("b")), 4, 2},
		{dir("", dir("a"), dir("b", file("x", ""))), 4, 2},
		{dir("", dir("a", dir("b", dir("c"))), dir("b", file("x", ""))), 6, 3},
		{api.Node{Kind: api.File, Kids: []api.Node{{Kids: []api.Node{{}}}, {}}}, 4, 2},
		{dir("", dir("a"), dir("a"), dir("")), 4, 1},
		{sample(), 11, 3},
		{chain(6), 7, 6},
		{chain(100), 101, 100},
		{wide(64), 64, 1},
		{wide(1000), 1000, 1},
	} {
		if count, depth := tree.Count(x.n), tree.Depth(x.n); count != x.count || depth != x.depth {
			t.Errorf("%d: %d nodes, %d deep, want %d, %d", i, count, depth, x.count, x.depth)
		}
	}
}

func TestCountAndDepthOfAnyNodes(t *testing.T) {
	for i, n := range anyNodes() {
		if got, want := tree.Count(n), countByTheWords(n); got != want {
			t.Errorf("node %d: %d nodes, want %d", i, got, want)
		}
		if got, want := tree.Depth(n), depthByTheWords(n); got != want {
			t.Errorf("node %d: %d deep, want %d", i, got, want)
		}
	}
}

// P8.2: Walk.

func TestWalkOfKnownNodes(t *testing.T) {
	for _, x := range []struct {
		n    api.Node
		want string
	}{
		{dir(""), `""`},
		{dir("r"), `""`},
		{file("a/b", "x"), `""`},
		{dir("", file("a", "")), `"" "a"`},
		{dir("r", dir("b", file("y", ""), file("x", "")), dir("a", dir("b"))), `"" "b" "b/y" "b/x" "a" "a/b"`},
		{dir("", dir("a", file("x", "")), dir("a", file("x", ""), file("y", "")), dir("a")), `"" "a" "a/x" "a" "a/x" "a/y" "a"`},
		{api.Node{Kids: []api.Node{{Kind: api.File, Name: "f", Kids: []api.Node{file("g", "")}}}}, `"" "f" "f/g"`},
		{sample(), `"" "a" "a/x" "a/y" "a/y/deep" "a/y/e" "a/z" "a.b" "b" "d" "é"`},
		{chain(8), `"" "a" "a/a" "a/a/a" "a/a/a/a" "a/a/a/a/a" "a/a/a/a/a/a" "a/a/a/a/a/a/a" "a/a/a/a/a/a/a/a"`},
	} {
		var paths []string
		for _, e := range tree.Walk(x.n) {
			paths = append(paths, `"`+e.Path+`"`)
		}
		if got := strings.Join(paths, " "); got != x.want {
			t.Errorf("%s, want %s", got, x.want)
		}
	}
}

func TestWalkOfAnyNodes(t *testing.T) {
	for _, n := range anyNodes() {
		var want []tree.Entry
		walkByTheWords(n, "", func(p string, n api.Node) {
			n.Kids = nil
			want = append(want, tree.Entry{Path: p, Node: n})
		})
		sameEntries(t, tree.Walk(n), want)
	}
}

func TestWalkAnswersNewMemory(t *testing.T) {
	for _, n := range []api.Node{sample(), roomy(sample()), wide(20)} {
		before := inFull(n)
		l := tree.Walk(n)
		for i := range l[:cap(l)] {
			spoil(&l[:cap(l)][i].Node)
		}
		if !reflect.DeepEqual(inFull(n), before) {
			t.Error("what was walked through is changed")
		}
		l, again := tree.Walk(n), tree.Walk(n)
		for i := range l {
			for k := range l {
				if k != i {
					spoil(&l[k].Node)
				}
			}
			same(t, l[i].Node, again[i].Node)
			l = tree.Walk(n)
		}
	}
}

// P8.2: Build.

func builds(t *testing.T, l []tree.Entry, want api.Node, wantE api.Errno) {
	t.Helper()
	got, e := tree.Build(l)
	if e != wantE || !sameByTheWords(got, want) {
		t.Errorf("Build(%+v) = %+v, %v, want %+v, %v", l, got, e, want, wantE)
	}
}

// at is an entry whose node's Name is the last one of its path.
func at(p string, n api.Node) tree.Entry {
	n.Name = p[strings.LastIndex(p, "/")+1:]
	return tree.Entry{Path: p, Node: n}
}

func TestBuildOfKnownEntries(t *testing.T) {
	d, f := dir(""), file("", "x")
	builds(t, []tree.Entry{at("", d)}, dir(""), api.OK)
	builds(t, []tree.Entry{at("", d), at("a", f)}, dir("", file("a", "x")), api.OK)
	builds(t, []tree.Entry{at("", d), at("a", d), at("b", f)}, dir("", dir("a"), file("b", "x")), api.OK)
	builds(t, []tree.Entry{at("", d), at("a", d), at("a/b", f)}, dir("", dir("a", file("b", "x"))), api.OK)
	builds(t, []tree.Entry{at("", d), at("a", d), at("a/b", d), at("a/b/c", f), at("a/d", f), at("a.b", f), at("e", d), at("e/a", f)},
		dir("", dir("a", dir("b", file("c", "x")), file("d", "x")), file("a.b", "x"), dir("e", file("a", "x"))), api.OK)
	builds(t, []tree.Entry{at("", d), at("a", d), at("a/a", d), at("a/a/a", d), at("a/a/a/a", d), at("a/a/a/a/a", d), at("a/a/a/a/a/a", f), at("b", f)},
		dir("", dir("a", dir("a", dir("a", dir("a", dir("a", file("a", "x")))))), file("b", "x")), api.OK)
}

// Build looks at no other fields: what it builds need not be a tree that may be.
func TestBuildOfNodesThatMayNotBe(t *testing.T) {
	for _, x := range ownFields {
		for kind := -1; kind < 7; kind++ {
			n := with(api.Node{Kind: kind, Name: "a"}, x.change)
			if len(n.Kids) > 0 {
				continue
			}
			builds(t, []tree.Entry{at("", dir("")), at("a", n)}, dir("", n), api.OK)
			n.Name = ""
			if kind == api.Dir {
				builds(t, []tree.Entry{at("", n)}, n, api.OK)
			} else {
				builds(t, []tree.Entry{at("", n)}, api.Node{}, api.ErrForm)
			}
		}
	}
	builds(t, tree.Walk(wide(500)), wide(500), api.OK)
}

func TestBuildRefuses(t *testing.T) {
	d, f := dir(""), file("", "x")
	named := func(p, name string) tree.Entry { return tree.Entry{Path: p, Node: file(name, "")} }
	for what, l := range map[string][]tree.Entry{
		"none":                          nil,
		"none, not nil":                 {},
		"a first path that is a name":   {at("a", d)},
		"a first path of two":           {at("a/b", d)},
		"no root":                       {at("a", d), at("a/b", f)},
		"the root last":                 {at("a", f), at("", d)},
		"two roots":                     {at("", d), at("", d)},
		"a second root":                 {at("", d), at("a", f), at("", d)},
		"a file as root":                {at("", f)},
		"no kind as root":               {at("", api.Node{})},
		"a link as root":                {at("", link("", "t")), at("a", f)},
		"a device as root":              {at("", device("", 0, 0))},
		"a root of kind 5":              {at("", api.Node{Kind: 5})},
		"a root with a name":            {named("", "a")},
		"a root directory with a name":  {{Path: "", Node: dir("r")}},
		"a path of /":                   {at("", d), at("/", d)},
		"a path with / first":           {at("", d), at("/a", f)},
		"a path with / last":            {at("", d), at("a", d), at("a/", f)},
		"a path with //":                {at("", d), at("a", d), at("a//b", f)},
		"a path of .":                   {at("", d), at(".", f)},
		"a path with ..":                {at("", d), at("a", d), at("a/..", f)},
		"a path with 0":                 {at("", d), at("a\x00", f)},
		"a path of 25 bytes":            {at("", d), at(strings.Repeat("a", 25), f)},
		"a path of seven":               append(tree.Walk(chain(6)), at("a/a/a/a/a/a/a", f)),
		"deep ones":                     tree.Walk(chain(7)),
		"a root with kids":              {at("", dir("", file("a", "")))},
		"a node with kids":              {at("", d), at("a", dir("a", file("b", "")))},
		"a file with kids":              {at("", d), at("a", api.Node{Kind: api.File, Kids: []api.Node{{}}})},
		"another name":                  {at("", d), named("a", "b")},
		"the path as name":              {at("", d), at("a", d), named("a/b", "a/b")},
		"the first name":                {at("", d), at("a", d), named("a/b", "a")},
		"no name":                       {at("", d), named("a", "")},
		"no parent":                     {at("", d), at("a/b", f)},
		"a parent of a parent":          {at("", d), at("a", d), at("a/b/c", f)},
		"a parent behind":               {at("", d), at("a/b", f), at("a", d)},
		"a file as parent":              {at("", d), at("a", f), at("a/b", f)},
		"a link as parent":              {at("", d), at("a", link("", "b")), at("a/b", f), at("b", d)},
		"a device as parent":            {at("", d), at("a", d), at("a/b", device("", 1, 1)), at("a/b/c", f)},
		"kind 5 as parent":              {at("", d), at("a", api.Node{Kind: 5}), at("a/b", f)},
		"another one's parent":          {at("", d), at("a", d), at("ab/c", f)},
		"a path twice":                  {at("", d), at("a", f), at("a", f)},
		"a directory twice":             {at("", d), at("a", d), at("a", d)},
		"a file, then a directory":      {at("", d), at("a", f), at("a", d), at("a/b", f)},
		"a directory, then a file":      {at("", d), at("a", d), at("a", f)},
		"names that fall":               {at("", d), at("b", f), at("a", f)},
		"a directory's names that fall": {at("", d), at("a", d), at("a/c", f), at("a/b", f)},
		"back to a directory":           {at("", d), at("a", d), at("b", f), at("a/b", f)},
		"by the texts":                  {at("", d), at("a", d), at("a.b", f), at("a/b", f)},
		"back to a deep directory":      {at("", d), at("a", d), at("a/a", d), at("a/b", d), at("a/a/a", f)},
		"a fault at the end":            append(tree.Walk(sample()), at("a", f)),
		"a fault of the first":          append([]tree.Entry{at("", f)}, tree.Walk(sample())[1:]...),
	} {
		if n, e := tree.Build(l); e != api.ErrForm || !reflect.DeepEqual(n, api.Node{}) {
			t.Errorf("%s: %+v, %v", what, n, e)
		}
	}
}

// entriesByTheWords goes through what Build refuses, in the promise's row.
func entriesByTheWords(l []tree.Entry) bool {
	if len(l) == 0 {
		return false
	}
	for _, x := range l {
		if _, e := path.Split(x.Path); e != api.OK || len(x.Node.Kids) > 0 || x.Node.Name != path.Base(x.Path) {
			return false
		}
	}
	if l[0].Path != "" || l[0].Node.Kind != 1 {
		return false
	}
	for i := 1; i < len(l); i++ {
		parent := slices.ContainsFunc(l[:i], func(x tree.Entry) bool {
			return x.Path == path.Parent(l[i].Path) && x.Node.Kind == 1
		})
		if !parent || path.Compare(l[i].Path, l[i-1].Path) != 1 {
			return false
		}
	}
	return true
}

func TestBuildOfAllShortLists(t *testing.T) {
	d, f := dir(""), file("", "x")
	pool := []tree.Entry{at("", d), at("", f), at("a", d), at("a", f), at("a.b", d), at("a/b", d), at("a/b/c", f), at("a/c", f), at("a.b/c", f), at("b", d), {Path: "b", Node: dir("c")}, at("b/", f), at("b/c", dir("", f))}
	good, bad := 0, 0
	var look func(l []tree.Entry, more int)
	look = func(l []tree.Entry, more int) {
		got, e := tree.Build(l)
		if entriesByTheWords(l) {
			if good++; e != api.OK {
				t.Errorf("Build(%+v) tells %v", l, e)
			}
			sameEntries(t, tree.Walk(got), l)
		} else if bad++; e != api.ErrForm || !reflect.DeepEqual(got, api.Node{}) {
			t.Errorf("Build(%+v) = %+v, %v", l, got, e)
		}
		if more > 0 {
			for _, x := range pool {
				look(append(slices.Clone(l), x), more-1)
			}
		}
	}
	look(nil, 3)
	for _, x := range pool[2:] {
		look([]tree.Entry{pool[0], pool[2], x}, 2)
	}
	if good < 20 || bad < 2000 {
		t.Errorf("%d and %d lists", good, bad)
	}
}

// Each entry taken out, doubled, or put at another place, of rows that are good.
func TestBuildOfRowsThatAreShaken(t *testing.T) {
	look := func(l []tree.Entry) {
		t.Helper()
		got, e := tree.Build(l)
		if (e == api.OK) != entriesByTheWords(l) || e != api.OK && e != api.ErrForm {
			t.Errorf("Build(%+v) tells %v", l, e)
		}
		if e == api.OK {
			sameEntries(t, tree.Walk(got), l)
		}
	}
	for _, n := range someTrees()[:60] {
		l := tree.Walk(n)
		for i := range l {
			look(append(slices.Clone(l[:i]), l[i+1:]...))
			look(slices.Insert(slices.Clone(l), i, l[i]))
			k := (i*7 + 3) % len(l)
			turned := slices.Clone(l)
			turned[i], turned[k] = turned[k], turned[i]
			look(turned)
		}
	}
}

func TestBuildAnswersNewMemory(t *testing.T) {
	l := tree.Walk(sample())
	for i := range l {
		l[i].Node = roomy(l[i].Node)
	}
	before := make([]api.Node, len(l))
	for i := range l {
		before[i] = inFull(l[i].Node)
	}
	n, e := tree.Build(l)
	if e != api.OK {
		t.Fatal(e)
	}
	spoil(&n)
	for i := range l {
		if !reflect.DeepEqual(inFull(l[i].Node), before[i]) {
			t.Errorf("entry %d is changed", i)
		}
	}
	n, _ = tree.Build(l)
	for i := range l {
		spoil(&l[i].Node)
	}
	same(t, n, sample())
	ownLists(t, func() api.Node { n, _ := tree.Build(tree.Walk(sample())); return n })
}

// ownLists spoils each node of an answer, and holds that no other one is changed.
func ownLists(t *testing.T, answer func() api.Node) {
	t.Helper()
	for i := range countByTheWords(answer()) {
		n, again := answer(), answer()
		l := nodes(&n)
		for k := range l[i].Data[:cap(l[i].Data)] {
			l[i].Data[:cap(l[i].Data)][k] ^= 1
		}
		for k := range l[i].Attrs[:cap(l[i].Attrs)] {
			l[i].Attrs[:cap(l[i].Attrs)][k].Key += "?"
		}
		for k := len(l[i].Kids); k < cap(l[i].Kids); k++ {
			l[i].Kids[:cap(l[i].Kids)][k].Name += "?"
		}
		for k, other := range nodes(&again) {
			if x := *l[k]; k != i && !reflect.DeepEqual([]any{x.Kind, x.Name, string(x.Data), append(attrs(), x.Attrs...)}, []any{other.Kind, other.Name, string(other.Data), append(attrs(), other.Attrs...)}) {
				t.Errorf("node %d is changed with node %d", k, i)
			}
		}
	}
}

// nodes are one, and all below it.
func nodes(n *api.Node) []*api.Node {
	l := []*api.Node{n}
	for i := range n.Kids {
		l = append(l, nodes(&n.Kids[i])...)
	}
	return l
}

// P8.3: Find.

func finds(t *testing.T, n api.Node, p string, want api.Node, wantE api.Errno) {
	t.Helper()
	got, e := tree.Find(n, p)
	if e != wantE || !sameByTheWords(got, want) {
		t.Errorf("Find(.., %q) = %+v, %v, want %+v, %v", p, got, e, want, wantE)
	}
}

func TestFindOfKnownPaths(t *testing.T) {
	n := sample()
	finds(t, n, "", n, api.OK)
	finds(t, n, "a", n.Kids[0], api.OK)
	finds(t, n, "a/x", file("x", "1"), api.OK)
	finds(t, n, "a/y", n.Kids[0].Kids[1], api.OK)
	finds(t, n, "a/y/deep", link("deep", "../x"), api.OK)
	finds(t, n, "a.b", n.Kids[1], api.OK)
	finds(t, n, "é", file("é", ""), api.OK)
	for _, p := range []string{"x", "y", "c", "A", "a/a", "a/x/y", "x/a", "b/x", "a.b/x", "a/y/deep/x", "a/y/z", "aa", "a.", "/", "//", "/a", "a/", "a//x", "//a", "a/x/", "/a/x", ".", "..", "./a", "a/.", "a/./x", "a/y/..", "a/y/../x", "\x00", "a\x00", "a/x\x00", "a\\x", "\xc3", "é/", strings.Repeat("a", 1000), strings.Repeat("a/", 1000) + "a"} {
		finds(t, n, p, api.Node{}, api.ErrNone)
	}
}

// Whatever the name of the one that is looked through, its path is empty.
func TestFindBelowANodeWithAName(t *testing.T) {
	n := dir("a", file("a", "x"))
	finds(t, n, "", n, api.OK)
	finds(t, n, "a", file("a", "x"), api.OK)
	finds(t, n, "a/a", api.Node{}, api.ErrNone)
	finds(t, dir("a"), "a", api.Node{}, api.ErrNone)
	finds(t, dir("a/b", file("c", "")), "a/b", api.Node{}, api.ErrNone)
	finds(t, dir("/", file("c", "")), "/", api.Node{}, api.ErrNone)
	finds(t, api.Node{}, "", api.Node{}, api.OK)
	finds(t, api.Node{}, "a", api.Node{}, api.ErrNone)
}

func TestFindOfTwoOfOnePath(t *testing.T) {
	n := dir("", file("a", "0"), dir("a", file("x", "1")), dir("a", file("x", "2"), file("y", "3"), dir("y", file("z", "4"))), dir("a", dir("y", file("z", "5")), file("w", "6")))
	finds(t, n, "a", file("a", "0"), api.OK)
	finds(t, n, "a/x", file("x", "1"), api.OK)
	finds(t, n, "a/y", file("y", "3"), api.OK)
	finds(t, n, "a/y/z", file("z", "4"), api.OK)
	finds(t, n, "a/w", file("w", "6"), api.OK)
	finds(t, n, "a/v", api.Node{}, api.ErrNone)
}

// Nodes that are deeper than any path goes, and below what is no directory, are there too.
func TestFindOfDeepNodes(t *testing.T) {
	n := file("end", "x")
	for range 30 {
		n = api.Node{Kind: api.File, Name: "a", Kids: []api.Node{n}}
	}
	finds(t, n, strings.Repeat("a/", 29)+"end", file("end", "x"), api.OK)
	finds(t, n, strings.Repeat("a/", 28)+"a", n1(n, 29), api.OK)
	finds(t, n, strings.Repeat("a/", 28)+"end", api.Node{}, api.ErrNone)
	finds(t, n, strings.Repeat("a/", 30)+"end", api.Node{}, api.ErrNone)
}

// n1 is the first kid of the first kid, and so on.
func n1(n api.Node, depth int) api.Node {
	for range depth {
		n = n.Kids[0]
	}
	return n
}

func TestFindOfAnyNodes(t *testing.T) {
	s := source(3)
	for _, n := range anyNodes() {
		first, paths := map[string]api.Node{}, []string{}
		walkByTheWords(n, "", func(p string, n api.Node) {
			if _, ok := first[p]; !ok {
				first[p] = n
				paths = append(paths, p)
			}
		})
		for _, p := range paths {
			finds(t, n, p, first[p], api.OK)
			if q := p + "/" + someNames[s.below(5)]; p != "" {
				if x, ok := first[q]; ok {
					finds(t, n, q, x, api.OK)
				} else {
					finds(t, n, q, api.Node{}, api.ErrNone)
				}
			}
			if p != "" {
				finds(t, n, p+"/", api.Node{}, api.ErrNone)
				finds(t, n, "/"+p, api.Node{}, api.ErrNone)
				finds(t, n, p+"\x00", api.Node{}, api.ErrNone)
			}
		}
	}
}

// P8.3: Clone.

func TestCloneOfAnyNodes(t *testing.T) {
	for _, n := range anyNodes() {
		same(t, tree.Clone(n), n)
	}
}

// Find, Clone and Sort: what is answered is new memory, at every depth.
func TestAnswersAreNewMemory(t *testing.T) {
	for what, call := range map[string]func(n api.Node) api.Node{
		"Clone": tree.Clone,
		"Sort":  tree.Sort,
		"Find":  func(n api.Node) api.Node { x, _ := tree.Find(n, ""); return x },
		"Find a": func(n api.Node) api.Node {
			x, _ := tree.Find(n, "a")
			return x
		},
		"Find a.b": func(n api.Node) api.Node {
			x, _ := tree.Find(n, "a.b")
			return x
		},
		"Find d": func(n api.Node) api.Node {
			x, _ := tree.Find(n, "d")
			return x
		},
	} {
		n := roomy(sample())
		before := inFull(n)
		x := call(n)
		spoil(&x)
		if !reflect.DeepEqual(inFull(n), before) {
			t.Errorf("%s: what was handed in is changed", what)
		}
		x, again := call(n), cloneByTheWords(call(n))
		spoil(&n)
		if !sameByTheWords(x, again) {
			t.Errorf("%s: changed with what was handed in", what)
		}
		ownLists(t, func() api.Node { return call(sample()) })
		shared := []byte("shared") // two that share one list share none in the answer
		both := call(dir("", dir("a", api.Node{Kind: api.File, Name: "x", Data: shared}, api.Node{Kind: api.File, Name: "y", Data: shared}), file("a.b", ""), file("d", "")))
		l := nodes(&both)
		for i, a := range l {
			for k, b := range l {
				if i != k && len(a.Data) > 0 && len(b.Data) > 0 && &a.Data[0] == &b.Data[0] {
					t.Errorf("%s: two nodes share their bytes", what)
				}
			}
		}
	}
}

// R4: nothing that is handed in is changed, its spare room neither.
func TestNothingHandedInIsChanged(t *testing.T) {
	s := source(4)
	for i := range 60 {
		n := roomy(s.wild("r", 3))
		if i%2 == 0 {
			n = roomy(s.tree(40))
		}
		before := inFull(n)
		tree.May(n)
		tree.Count(n)
		tree.Depth(n)
		l := tree.Walk(n)
		tree.Find(n, "")
		tree.Find(n, "a/a")
		tree.Clone(n)
		tree.Same(n, n)
		tree.Same(n, tree.Clone(n))
		tree.Sort(n)
		if !reflect.DeepEqual(inFull(n), before) {
			t.Error("a node is changed")
		}
		held := append(slices.Clone(l), tree.Entry{Path: "spare"})
		row := slices.Clone(held)
		tree.Build(held[:len(l)])
		if !reflect.DeepEqual(held, row) {
			t.Error("a row is changed")
		}
	}
}

// P8.3: Same.

// fields are changes of one field each.
var fields = []func(n *api.Node){
	func(n *api.Node) { n.Kind++ },
	func(n *api.Node) { n.Name += "x" },
	func(n *api.Node) { n.Mode++ },
	func(n *api.Node) { n.UID++ },
	func(n *api.Node) { n.GID++ },
	func(n *api.Node) { n.Mtime++ },
	func(n *api.Node) { n.Data = append(n.Data, 0) },
	func(n *api.Node) { n.Data = append([]byte{1}, n.Data...) },
	func(n *api.Node) { n.Target += "x" },
	func(n *api.Node) { n.Major++ },
	func(n *api.Node) { n.Minor++ },
	func(n *api.Node) { n.Attrs = append(n.Attrs, api.Attr{}) },
	func(n *api.Node) { n.Attrs = append([]api.Attr{{Key: "q"}}, n.Attrs...) },
	func(n *api.Node) { n.Kids = append(n.Kids, api.Node{}) },
	func(n *api.Node) { n.Kids = append([]api.Node{{}}, n.Kids...) },
}

func TestSameSeesEachFieldAtEachDepth(t *testing.T) {
	for _, n := range []api.Node{sample(), dir(""), {}, chain(9), file("f", "data")} {
		for i := range countByTheWords(n) {
			for k, change := range fields {
				c := cloneByTheWords(n)
				change(nodes(&c)[i])
				if tree.Same(n, c) || tree.Same(c, n) {
					t.Errorf("node %d, change %d: the same", i, k)
				}
				if !tree.Same(c, cloneByTheWords(c)) {
					t.Errorf("node %d, change %d: not the same", i, k)
				}
			}
		}
	}
}

func TestSameSeesBytesAndAttributes(t *testing.T) {
	attr := func(l ...api.Attr) api.Node { return api.Node{Attrs: l} }
	for i, x := range [][2]api.Node{
		{file("a", "xy"), file("a", "yx")},
		{file("a", "xy"), file("a", "x")},
		{attr(api.Attr{Key: "k", Value: "v"}), attr(api.Attr{Key: "k", Value: "w"})},
		{attr(api.Attr{Key: "k", Value: "v"}), attr(api.Attr{Key: "l", Value: "v"})},
		{attr(api.Attr{Key: "k"}, api.Attr{Key: "l"}), attr(api.Attr{Key: "l"}, api.Attr{Key: "k"})},
		{attr(api.Attr{Key: "k"}, api.Attr{Key: "l"}), attr(api.Attr{Key: "k"})},
		{dir("", file("a", ""), file("b", "")), dir("", file("b", ""), file("a", ""))},
		{dir("", dir("a", file("b", ""))), dir("", dir("a"), file("b", ""))}, // in one row, but otherwise deep
		{dir("", dir("a", dir("b"), dir("c"))), dir("", dir("a", dir("b", dir("c"))))},
	} {
		a, b := dir("", x[0]), dir("", x[1])
		if tree.Same(x[0], x[1]) || tree.Same(x[1], x[0]) || tree.Same(a, b) || tree.Same(b, a) {
			t.Errorf("%d: the same", i)
		}
		if !tree.Same(a, cloneByTheWords(a)) || !tree.Same(b, cloneByTheWords(b)) {
			t.Errorf("%d: not the same", i)
		}
	}
}

// R4: nil and empty lists are one.
func TestSameOfNilAndEmptyLists(t *testing.T) {
	a, b := api.Node{Kind: api.Dir, Kids: []api.Node{{}}}, api.Node{Kind: api.Dir, Data: []byte{}, Attrs: []api.Attr{}, Kids: []api.Node{{Data: []byte{}, Attrs: []api.Attr{}, Kids: []api.Node{}}}}
	if !tree.Same(a, b) || !tree.Same(b, a) || !tree.Same(roomy(a), b) {
		t.Error("not the same")
	}
	for what, x := range map[string]api.Node{"Clone": tree.Clone(b), "Sort": tree.Sort(b)} {
		if !tree.Same(x, a) {
			t.Errorf("%s: not the same", what)
		}
	}
}

func TestSameOfAnyNodes(t *testing.T) {
	l := anyNodes()
	for i, a := range l {
		if !tree.Same(a, a) || !tree.Same(a, cloneByTheWords(a)) {
			t.Errorf("node %d is not the same", i)
		}
		for k := i % 7; k < len(l); k += 7 {
			if got := tree.Same(a, l[k]); got != sameByTheWords(a, l[k]) {
				t.Errorf("nodes %d and %d: %v", i, k, got)
			}
		}
	}
}

// P8.3: Sort.

func TestSortOfKnownNodes(t *testing.T) {
	n := dir("r",
		file("b", "1"),
		dir("a.b", file("y", ""), file("x", "")),
		file("b", "2"),
		dir("\xff"),
		api.Node{Kind: api.File, Name: "a", Kids: []api.Node{file("q", ""), dir("p", file("z", ""), file("", ""), file("/", ""))}},
		file("é", ""), file("a-", ""), file("B", ""), file("b", "0"), file("", ""), file("z", ""))
	want := dir("r",
		file("", ""), file("B", ""),
		api.Node{Kind: api.File, Name: "a", Kids: []api.Node{dir("p", file("", ""), file("/", ""), file("z", "")), file("q", "")}},
		file("a-", ""),
		dir("a.b", file("x", ""), file("y", "")),
		file("b", "1"), file("b", "2"), file("b", "0"),
		file("z", ""), file("é", ""), dir("\xff"))
	same(t, tree.Sort(n), want)
	same(t, tree.Sort(want), want)
	same(t, tree.Sort(api.Node{}), api.Node{})
	same(t, tree.Sort(dir("", file("a/b", ""), file("a-", ""), file("a", ""))), dir("", file("a", ""), file("a-", ""), file("a/b", ""))) // names or not: not as paths
	kept := api.Node{Kind: api.File, Data: []byte("cba"), Attrs: []api.Attr{{Key: "b"}, {Key: "a"}}}
	same(t, tree.Sort(kept), kept)
}

func TestSortOfAnyNodes(t *testing.T) {
	for _, n := range anyNodes() {
		same(t, tree.Sort(n), sortByTheWords(n))
	}
	for _, n := range someTrees() {
		same(t, tree.Sort(n), n)
	}
}

// Those of one name stay in their row, also where there are many.
func TestSortKeepsTheRowOfOneName(t *testing.T) {
	s := source(5)
	var kids []api.Node
	for i := range 2000 {
		kids = append(kids, api.Node{Name: someNames[s.below(4)], Mode: i})
	}
	l := tree.Sort(dir("", dir("a", kids...))).Kids[0].Kids
	if len(l) != 2000 {
		t.Fatalf("%d kids", len(l))
	}
	for i := 1; i < len(l); i++ {
		if l[i-1].Name > l[i].Name || l[i-1].Name == l[i].Name && l[i-1].Mode >= l[i].Mode {
			t.Fatalf("%q %d stands ahead of %q %d", l[i-1].Name, l[i-1].Mode, l[i].Name, l[i].Mode)
		}
	}
}

// R1: nodes are however deep; calls within calls that are so deep do not end well. (The stack is bound here, so that this shows without very many nodes.)
func TestNoNodeIsTooDeep(t *testing.T) {
	defer debug.SetMaxStack(debug.SetMaxStack(1 << 21))
	const depth = 200000
	n := chain(depth)
	if got := tree.Count(n); got != depth+1 {
		t.Errorf("%d nodes", got)
	}
	if got := tree.Depth(n); got != depth {
		t.Errorf("%d deep", got)
	}
	if got := tree.May(n); got != api.ErrRange {
		t.Errorf("it may be: %v", got)
	}
	c := tree.Clone(n)
	if !tree.Same(n, c) || tree.Same(n, chain(depth-1)) || !tree.Same(tree.Sort(n), n) {
		t.Error("Clone, Same or Sort")
	}
	if x, e := tree.Find(n, strings.Repeat("a/", depth/2-1)+"a"); e != api.OK || tree.Depth(x) != depth/2 {
		t.Errorf("Find tells %v", e)
	}
	if x, e := tree.Find(n, strings.Repeat("a/", depth)+"a"); e != api.ErrNone || tree.Depth(x) != 0 {
		t.Errorf("Find below the last one tells %v", e)
	}
	last := &n
	for len(last.Kids) > 0 {
		last = &last.Kids[0]
	}
	last.Mode = -1
	if got := tree.May(n); got != api.ErrForm || tree.Same(n, c) {
		t.Errorf("with a fault at its end: %v", got)
	}
	l := tree.Walk(chain(2000))
	if len(l) != 2001 || l[2000].Path != strings.Repeat("a/", 1999)+"a" {
		t.Errorf("%d entries", len(l))
	}
}

func TestManyKids(t *testing.T) {
	n := dir("", slices.Repeat([]api.Node{dir("a", file("b", ""))}, 50000)...)
	if tree.Count(n) != 100001 || tree.Depth(n) != 2 || len(tree.Walk(n)) != 100001 || tree.May(n) != api.ErrForm {
		t.Error("Count, Depth, Walk or May")
	}
	if !tree.Same(tree.Sort(n), n) || !tree.Same(tree.Clone(n), n) {
		t.Error("Sort or Clone")
	}
	finds(t, n, "a/c", api.Node{}, api.ErrNone)
}

// P8.4.

func TestWalkAndBuildLeadThereAndBack(t *testing.T) {
	for i, n := range someTrees() {
		l := tree.Walk(n)
		got, e := tree.Build(l)
		if e != api.OK || !tree.Same(got, n) || tree.May(got) != api.OK {
			t.Errorf("tree %d: %v", i, e)
		}
		same(t, got, n)
		sameEntries(t, tree.Walk(got), l)
	}
}

// The entries of a tree that may be stand as paths do, and each is found by its path.
func TestEntriesOfTreesThatMayBe(t *testing.T) {
	for _, n := range someTrees() {
		l := tree.Walk(n)
		if len(l) != tree.Count(n) {
			t.Errorf("%d entries of %d nodes", len(l), tree.Count(n))
		}
		for i, x := range l {
			if i > 0 && path.Compare(l[i-1].Path, x.Path) != -1 {
				t.Errorf("%q ahead of %q", l[i-1].Path, x.Path)
			}
			found, e := tree.Find(n, x.Path)
			if found.Kids = nil; e != api.OK || !tree.Same(found, x.Node) {
				t.Errorf("%q: %v", x.Path, e)
			}
		}
	}
}
