package arch_test

import (
	"bytes"
	"encoding/binary"
	"reflect"
	"runtime"
	"runtime/debug"
	"slices"
	"strings"
	"testing"

	"lighterage/api"
	"lighterage/arch"
	"lighterage/tree"
)

func dir(name string, kids ...api.Node) api.Node {
	return api.Node{Kind: api.Dir, Name: name, Kids: kids}
}

func file(name, data string) api.Node {
	return api.Node{Kind: api.File, Name: name, Data: []byte(data)}
}

func link(name, target string) api.Node {
	return api.Node{Kind: api.Link, Name: name, Target: target}
}

func device(name string, major, minor int) api.Node {
	return api.Node{Kind: api.Device, Name: name, Major: major, Minor: minor}
}

// sample is a tree that may be, of all kinds, in which each byte of each number is another one somewhere.
func sample() api.Node {
	return api.Node{Kind: api.Dir, Mode: 493, Mtime: 7, Attrs: []api.Attr{{Key: "r", Value: "root"}}, Kids: []api.Node{
		dir("a",
			file("x", "1"),
			dir("y", link("deep", "../x"), device("e", 1, 2)),
			api.Node{Kind: api.Link, Name: "z", Mode: 0x0102, UID: 0x03040506, GID: 0x0708090a, Mtime: 0x0b0c0d0e0f, Target: "a/x", Attrs: []api.Attr{{Key: "k"}}}),
		api.Node{Kind: api.File, Name: "a.b", Mode: 4095, UID: api.MaxID, GID: api.MaxID, Mtime: api.MaxTime, Data: []byte{0, 255}},
		dir("b"),
		api.Node{Kind: api.Device, Name: "d", Major: 255, Minor: 3, Attrs: []api.Attr{{Key: "k", Value: "v\x00/"}, {Key: "l"}}},
		file("é", ""),
	}}
}

// small is a tree that may be, of few bytes.
func small() api.Node {
	return dir("", file("a", "x"), dir("b", link("c", "t")), api.Node{Kind: api.Device, Name: "d", Minor: 1, Attrs: []api.Attr{{Key: "k", Value: "v"}}})
}

// chain is directories within each other: it is so deep.
func chain(depth int) api.Node {
	n := dir("a")
	for range depth {
		n = dir("a", n)
	}
	n.Name = ""
	return n
}

// wide is a root with so many nodes, itself too.
func wide(nodes int) api.Node {
	var kids []api.Node
	for i := range nodes - 1 {
		kids = append(kids, file(string([]byte{byte('a' + i/26), byte('a' + i%26)}), ""))
	}
	return dir("", kids...)
}

// greatest is a tree of which nothing can be more.
func greatest() api.Node {
	long := func(i int) string { return string(rune('A'+i)) + strings.Repeat("n", api.MaxName-1) }
	n := dir("")
	for i := range api.MaxNodes - 1 {
		kid := file(long(i), strings.Repeat("\xff", api.MaxFile))
		for j := range api.MaxAttrs {
			kid.Attrs = append(kid.Attrs, api.Attr{Key: long(j), Value: strings.Repeat("\x00", 24)})
		}
		n.Kids = append(n.Kids, kid)
	}
	return n
}

// A source of numbers that is the same in each run.
type source uint64

func (s *source) below(n int) int {
	*s = *s*6364136223846793005 + 1442695040888963407
	return int(uint64(*s) >> 33 % uint64(n))
}

// someNames begin with each other, and have bytes that could be kinds and lengths.
var someNames = []string{"\x01", "\x02", "\x03", "\x04", "a", "a\x01", "aa", "b", "é", "\xff", strings.Repeat("n", 24)}

func (s *source) names(most int) []string {
	var l []string
	for range most {
		l = append(l, someNames[s.below(len(someNames))])
	}
	slices.Sort(l)
	return slices.Compact(l)
}

// text is one of bytes that are often 0, or small.
func (s *source) text(most int) string {
	b := make([]byte, s.below(most+1))
	for i := range b {
		b[i] = byte(s.below(1 << s.below(9)))
	}
	return string(b)
}

// node is one of any kind, whose own fields may be.
func (s *source) node(kind int, name string) api.Node {
	n := api.Node{Kind: kind, Name: name, Mode: s.below(4096), UID: s.below(1 << 31), GID: s.below(1 << 31), Mtime: s.below(1<<31) << s.below(10)}
	for _, key := range s.names(s.below(5)) {
		n.Attrs = append(n.Attrs, api.Attr{Key: key, Value: s.text(24)})
	}
	switch kind {
	case api.File:
		n.Data = []byte(s.text(40))
	case api.Link:
		n.Target = strings.ReplaceAll(s.text(63), "\x00", "0") + "/"
	case api.Device:
		n.Major, n.Minor = s.below(256), s.below(256)
	}
	return n
}

// tree is one that may be, with most nodes below the root at most.
func (s *source) tree(most int) api.Node {
	n := s.node(api.Dir, "")
	s.kids(&n, 1, &most)
	return n
}

func (s *source) kids(n *api.Node, depth int, most *int) {
	for _, name := range s.names(s.below(7)) {
		if *most == 0 || depth > api.MaxDepth {
			return
		}
		*most--
		kid := s.node(1+s.below(4), name)
		if kid.Kind == api.Dir {
			s.kids(&kid, depth+1, most)
		}
		n.Kids = append(n.Kids, kid)
	}
}

// The archive by the document's words.

func short(s string) string { return string([]byte{byte(len(s))}) + s }

func nodeByTheWords(n api.Node) string {
	b := string([]byte{byte(n.Kind)}) + short(n.Name)
	b += string(binary.LittleEndian.AppendUint16(nil, uint16(n.Mode)))
	b += string(binary.LittleEndian.AppendUint32(nil, uint32(n.UID)))
	b += string(binary.LittleEndian.AppendUint32(nil, uint32(n.GID)))
	b += string(binary.LittleEndian.AppendUint64(nil, uint64(n.Mtime)))
	b += string([]byte{byte(len(n.Attrs))})
	for _, a := range n.Attrs {
		b += short(a.Key) + short(a.Value)
	}
	switch n.Kind {
	case api.Dir:
		for _, kid := range n.Kids {
			b += nodeByTheWords(kid)
		}
		b += "\x00"
	case api.File:
		b += string(binary.LittleEndian.AppendUint32(nil, uint32(len(n.Data)))) + string(n.Data)
	case api.Link:
		b += short(n.Target)
	case api.Device:
		b += string([]byte{byte(n.Major), byte(n.Minor)})
	}
	return b
}

func archiveByTheWords(n api.Node) string { return "LTR1" + nodeByTheWords(n) }

// treeByTheWords is the tree that may be whose archive is all of b, if there is one: bytes are taken as what they
// would have to be, and what comes of them is written again.
func treeByTheWords(b string) (n api.Node, is bool) {
	defer func() {
		if recover() != nil { // the bytes ended
			n, is = api.Node{}, false
		}
	}()
	rest := b[4:]
	n = takeByTheWords(&rest)
	if tree.May(n) != api.OK || archiveByTheWords(n) != b {
		return api.Node{}, false
	}
	return n, true
}

func takeByTheWords(rest *string) api.Node {
	bytesOf := func(size int) string {
		s := (*rest)[:size]
		*rest = (*rest)[size:]
		return s
	}
	number := func(size int) int {
		return int(binary.LittleEndian.Uint64([]byte(bytesOf(size) + strings.Repeat("\x00", 8-size))))
	}
	text := func() string { return bytesOf(number(1)) }
	n := api.Node{Kind: number(1), Name: text(), Mode: number(2), UID: number(4), GID: number(4), Mtime: number(8)}
	for range number(1) {
		n.Attrs = append(n.Attrs, api.Attr{Key: text(), Value: text()})
	}
	switch n.Kind {
	case api.Dir:
		for (*rest)[0] != 0 {
			n.Kids = append(n.Kids, takeByTheWords(rest))
		}
		bytesOf(1)
	case api.File:
		n.Data = []byte(bytesOf(number(4)))
	case api.Link:
		n.Target = text()
	case api.Device:
		n.Major, n.Minor = number(1), number(1)
	}
	return n
}

func pathsByTheWords(n api.Node, path string) []string {
	l := []string{path}
	for _, kid := range n.Kids {
		l = append(l, pathsByTheWords(kid, strings.TrimPrefix(path+"/"+kid.Name, "/"))...)
	}
	return l
}

// isArchive tells faults of Write, Size, Read and List at a tree that may be.
func isArchive(t *testing.T, n api.Node) {
	t.Helper()
	if e := tree.May(n); e != api.OK {
		t.Fatalf("the test's tree may not be: %v", e)
	}
	want := archiveByTheWords(n)
	b, e := arch.Write(n)
	if e != api.OK || string(b) != want {
		t.Errorf("Write of %v: %q %v, not %q", n, b, e, want)
	}
	if size := arch.Size(n); size != len(want) {
		t.Errorf("Size of %v: %d, not %d", n, size, len(want))
	}
	if x, e := arch.Read([]byte(want)); e != api.OK || !tree.Same(x, n) {
		t.Errorf("Read of %q: %v %v", want, x, e)
	}
	if l, e := arch.List([]byte(want)); e != api.OK || !slices.Equal(l, pathsByTheWords(n, "")) {
		t.Errorf("List of %q: %q %v", want, l, e)
	}
}

// isNone tells faults of Read and List at bytes that are no archive.
func isNone(t *testing.T, what string, b string) {
	t.Helper()
	if x, e := arch.Read([]byte(b)); e != api.ErrForm || !tree.Same(x, api.Node{}) {
		t.Errorf("%s: Read: %v %v", what, x, e)
	}
	if l, e := arch.List([]byte(b)); e != api.ErrForm || len(l) != 0 {
		t.Errorf("%s: List: %q %v", what, l, e)
	}
}

// isAsTheWordsSay holds Read and List at any bytes against the words.
func isAsTheWordsSay(t *testing.T, b string) (is bool) {
	t.Helper()
	n, is := treeByTheWords(b)
	if is {
		isArchive(t, n)
	} else {
		isNone(t, "bytes", b)
	}
	return is
}

func TestExamples(t *testing.T) {
	want := "LTR1\x01" + strings.Repeat("\x00", 21)
	b, e := arch.Write(dir(""))
	if e != api.OK || string(b) != want || len(b) != 26 {
		t.Errorf("%q %v", b, e)
	}
	if size := arch.Size(dir("")); size != 26 {
		t.Error(size)
	}
	if n, e := arch.Read([]byte(want)); e != api.OK || !tree.Same(n, dir("")) {
		t.Error(n, e)
	}
	if l, e := arch.List([]byte(want)); e != api.OK || !slices.Equal(l, []string{""}) {
		t.Error(l, e)
	}
}

// One archive is written out by hand: where the words of the test above are wrong, this one is not.
func TestLayout(t *testing.T) {
	n := api.Node{Kind: api.Dir, Mode: 0x0102, UID: 0x01020304, GID: 0x05060708, Mtime: 0x0102030405, Attrs: []api.Attr{{Key: "k", Value: "vw"}, {Key: "l"}}, Kids: []api.Node{
		{Kind: api.Dir, Name: "d", Kids: []api.Node{{Kind: api.Device, Name: "e", Major: 8, Minor: 9}}},
		{Kind: api.File, Name: "ff", Data: bytes.Repeat([]byte("x"), 259)},
		{Kind: api.Link, Name: "l", Target: "d/e"},
	}}
	zero := strings.Repeat("\x00", 19)
	want := "LTR1" +
		"\x01" + "\x00" + "\x02\x01" + "\x04\x03\x02\x01" + "\x08\x07\x06\x05" + "\x05\x04\x03\x02\x01\x00\x00\x00" +
		"\x02" + "\x01k" + "\x02vw" + "\x01l" + "\x00" +
		"\x01" + "\x01d" + zero +
		"\x04" + "\x01e" + zero + "\x08" + "\x09" +
		"\x00" +
		"\x02" + "\x02ff" + zero + "\x03\x01\x00\x00" + strings.Repeat("x", 259) +
		"\x03" + "\x01l" + zero + "\x03d/e" +
		"\x00"
	b, e := arch.Write(n)
	if e != api.OK || string(b) != want {
		t.Errorf("%q %v", b, e)
	}
	if x, e := arch.Read([]byte(want)); e != api.OK || !tree.Same(x, n) {
		t.Error(x, e)
	}
	if l, e := arch.List([]byte(want)); e != api.OK || !slices.Equal(l, []string{"", "d", "d/e", "ff", "l"}) {
		t.Error(l, e)
	}
	isArchive(t, n)
}

func TestEdgesThatMayBe(t *testing.T) {
	for _, n := range []api.Node{
		dir(""),
		sample(),
		small(),
		chain(6),
		wide(64),
		greatest(),
		{Kind: api.Dir, Mode: 4095, UID: api.MaxID, GID: api.MaxID, Mtime: api.MaxTime},
		{Kind: api.Dir, Attrs: []api.Attr{{Key: "a"}, {Key: "b"}, {Key: "c"}, {Key: "d"}}},
		{Kind: api.Dir, Attrs: []api.Attr{{Key: strings.Repeat("k", 24), Value: strings.Repeat("v", 24)}}},
		dir("", file("f", strings.Repeat("d", 4096))),
		dir("", file("f", "LTR1"), file(strings.Repeat("n", 24), "")),
		dir("", link("l", "t"), link("m", strings.Repeat("t", 64))),
		dir("", device("a", 0, 0), device("b", 255, 0), device("c", 0, 255), device("d", 255, 255)),
	} {
		isArchive(t, n)
	}
}

func TestGeneratedTrees(t *testing.T) {
	s := source(9)
	for range 3000 {
		isArchive(t, s.tree(s.below(64)))
	}
}

func TestWriteOfTreesThatMayNotBe(t *testing.T) {
	both := chain(7)
	both.Mode = -1
	for _, c := range []struct {
		what string
		n    api.Node
		e    api.Errno
	}{
		{"no kind", api.Node{}, api.ErrForm},
		{"a file as the root", api.Node{Kind: api.File}, api.ErrForm},
		{"a kind of 5", dir("", api.Node{Kind: 5, Name: "a"}), api.ErrForm},
		{"a root with a name", dir("a"), api.ErrForm},
		{"a kid without a name", dir("", dir("")), api.ErrForm},
		{"a name of 25", dir("", dir(strings.Repeat("n", 25))), api.ErrForm},
		{"a name of 257", dir("", dir(strings.Repeat("n", 257))), api.ErrForm},
		{"kids that fall", dir("", dir("b"), dir("a")), api.ErrForm},
		{"kids of one name", dir("", dir("a"), dir("a")), api.ErrForm},
		{"a mode below 0", api.Node{Kind: api.Dir, Mode: -1}, api.ErrForm},
		{"a mode of 65536", api.Node{Kind: api.Dir, Mode: 1 << 16}, api.ErrForm},
		{"a time that is too late", api.Node{Kind: api.Dir, Mtime: api.MaxTime + 1}, api.ErrForm},
		{"a directory with data", api.Node{Kind: api.Dir, Data: []byte("x")}, api.ErrForm},
		{"a file with a kid", dir("", api.Node{Kind: api.File, Name: "a", Kids: []api.Node{dir("b")}}), api.ErrForm},
		{"too much data", dir("", file("f", strings.Repeat("d", 4097))), api.ErrForm},
		{"a link to nothing", dir("", link("l", "")), api.ErrForm},
		{"a device's number of 256", dir("", device("d", 256, 0)), api.ErrForm},
		{"seven deep", chain(7), api.ErrRange},
		{"65 nodes", wide(65), api.ErrRange},
		{"a fault of form and seven deep", both, api.ErrForm},
		{"300000 deep", chain(300000), api.ErrRange},
	} {
		if e := tree.May(c.n); e != c.e {
			t.Errorf("%s: May: %v", c.what, e)
		}
		if b, e := arch.Write(c.n); e != c.e || len(b) != 0 {
			t.Errorf("%s: Write: %q %v", c.what, b, e)
		}
	}
}

// What is written of trees that may not be, as if they might.
func TestReadOfTreesThatMayNotBe(t *testing.T) {
	attrs := func(l ...api.Attr) api.Node { return api.Node{Kind: api.Dir, Attrs: l} }
	for what, n := range map[string]api.Node{
		"no kind":                  {},
		"a file as the root":       {Kind: api.File},
		"a link as the root":       {Kind: api.Link, Target: "t"},
		"a device as the root":     {Kind: api.Device},
		"a root of kind 5":         {Kind: 5},
		"a kind of 5":              dir("", api.Node{Kind: 5, Name: "a"}),
		"a kind of 255":            dir("", api.Node{Kind: 255, Name: "a"}),
		"a root with a name":       dir("a"),
		"a kid without a name":     dir("", dir("")),
		"a kid called .":           dir("", dir(".")),
		"a kid called ..":          dir("", dir("..")),
		"a name with /":            dir("", dir("a/b")),
		"a name with 0":            dir("", dir("a\x00")),
		"a name of 25":             dir("", dir(strings.Repeat("n", 25))),
		"a name of 255":            dir("", dir(strings.Repeat("n", 255))),
		"kids that fall":           dir("", dir("b"), dir("a")),
		"kids of one name":         dir("", dir("a"), dir("a")),
		"kids that fall, below":    dir("", dir("a", dir("b"), dir("a"))),
		"a mode of 4096":           {Kind: api.Dir, Mode: 4096},
		"a mode of 65535":          {Kind: api.Dir, Mode: 65535},
		"a UID of 2^31":            {Kind: api.Dir, UID: 1 << 31},
		"a UID of 2^32 - 1":        {Kind: api.Dir, UID: 1<<32 - 1},
		"a GID of 2^31":            {Kind: api.Dir, GID: 1 << 31},
		"a GID of 2^32 - 1":        {Kind: api.Dir, GID: 1<<32 - 1},
		"a time of 2^40 + 1":       {Kind: api.Dir, Mtime: 1<<40 + 1},
		"a time of 2^56":           {Kind: api.Dir, Mtime: 1 << 56},
		"a time of 2^63":           {Kind: api.Dir, Mtime: -1 << 63},
		"a time of 2^63 + 5":       {Kind: api.Dir, Mtime: -1<<63 + 5},
		"a time of 2^64 - 1":       {Kind: api.Dir, Mtime: -1},
		"five attributes":          attrs(api.Attr{Key: "a"}, api.Attr{Key: "b"}, api.Attr{Key: "c"}, api.Attr{Key: "d"}, api.Attr{Key: "e"}),
		"255 attributes":           attrs(make([]api.Attr, 255)...),
		"keys that fall":           attrs(api.Attr{Key: "b"}, api.Attr{Key: "a"}),
		"keys twice":               attrs(api.Attr{Key: "a"}, api.Attr{Key: "a", Value: "b"}),
		"an empty key":             attrs(api.Attr{Key: ""}),
		"a key with /":             attrs(api.Attr{Key: "a/"}),
		"a key of 25":              attrs(api.Attr{Key: strings.Repeat("k", 25)}),
		"a value of 25":            attrs(api.Attr{Key: "a", Value: strings.Repeat("v", 25)}),
		"a value of 255":           attrs(api.Attr{Key: "a", Value: strings.Repeat("v", 255)}),
		"data of 4097":             dir("", file("f", strings.Repeat("d", 4097))),
		"data of 65536":            dir("", file("f", strings.Repeat("d", 65536))),
		"an empty target":          dir("", link("l", "")),
		"a target of 65":           dir("", link("l", strings.Repeat("t", 65))),
		"a target of 255":          dir("", link("l", strings.Repeat("t", 255))),
		"a target with 0":          dir("", link("l", "t\x00")),
		"seven deep":               chain(7),
		"65 nodes":                 wide(65),
		"a fault of a kid's kid":   dir("", dir("a", api.Node{Kind: api.File, Name: "f", Mode: 4096})),
		"a fault of the last node": dir("", dir("a"), dir("b"), link("c", "")),
	} {
		isNone(t, what, archiveByTheWords(n))
	}
}

func TestReadOfNoArchive(t *testing.T) {
	whole := archiveByTheWords(sample())
	for i := range whole {
		isNone(t, "a beginning", whole[:i])
		if i >= 4 { // a root of fewer nodes, at some places
			isAsTheWordsSay(t, whole[:i]+"\x00")
		}
		isNone(t, "an end", whole[i+1:])
	}
	for i := range 256 {
		isNone(t, "a byte behind", whole+string([]byte{byte(i)}))
	}
	isNone(t, "two archives", whole+whole)
	isNone(t, "two roots", whole+whole[4:])
	isNone(t, "a byte ahead", "\x00"+whole)
	for i := range 4 {
		for c := range 256 {
			if byte(c) != whole[i] {
				isNone(t, "another mark", whole[:i]+string([]byte{byte(c)})+whole[i+1:])
			}
		}
	}
	isNone(t, "nothing", "")
	isNone(t, "a mark in another case", "ltr1"+whole[4:])
	if n, e := arch.Read(nil); e != api.ErrForm || !tree.Same(n, api.Node{}) {
		t.Error(n, e)
	}
	if l, e := arch.List(nil); e != api.ErrForm || len(l) != 0 {
		t.Error(l, e)
	}
}

// Lengths that tell more bytes than there are.
func TestReadOfLengthsThatAreTooGreat(t *testing.T) {
	whole := archiveByTheWords(dir("", file("f", "data")))
	at := strings.Index(whole, "\x04\x00\x00\x00data")
	for _, length := range []uint32{0, 3, 5, 6, 1 << 8, 1 << 16, 1 << 24, 1<<31 - 1, 1 << 31, 1<<32 - 1} {
		isNone(t, "another length", whole[:at]+string(binary.LittleEndian.AppendUint32(nil, length))+whole[at+4:])
	}
	for _, rest := range []string{"", "\x00", "d\x00", "dat\x00", "data", "data\x00\x00"} {
		isNone(t, "other bytes", whole[:at+4]+rest)
	}
}

// Each byte of an archive becomes each other one; some of these are archives, most are none.
func TestEachByteChanged(t *testing.T) {
	for _, n := range []api.Node{dir(""), small()} {
		whole := archiveByTheWords(n)
		archives := 0
		for i := range whole[4:] {
			for c := range 256 {
				if isAsTheWordsSay(t, whole[:4+i]+string([]byte{byte(c)})+whole[5+i:]) {
					archives++
				}
			}
		}
		if archives < 1000 || archives > 200*len(whole) {
			t.Error(archives, "archives: the test's trees tell little")
		}
	}
}

// Each bit of a greater archive becomes the other one.
func TestEachBitChanged(t *testing.T) {
	whole := archiveByTheWords(sample())
	for i := range whole[4:] {
		for bit := range 8 {
			b := []byte(whole)
			b[4+i] ^= 1 << bit
			isAsTheWordsSay(t, string(b))
		}
	}
}

// Bytes are put in, and taken out, at each place.
func TestEachPlaceCutAndFilled(t *testing.T) {
	whole := archiveByTheWords(small())
	for i := 4; i <= len(whole); i++ {
		for j := i; j <= len(whole); j++ {
			isAsTheWordsSay(t, whole[:i]+whole[j:])
			isAsTheWordsSay(t, whole[:j]+whole[i:])
		}
		for c := range 256 {
			isAsTheWordsSay(t, whole[:i]+string([]byte{byte(c)})+whole[i:])
		}
	}
}

func TestGeneratedBytes(t *testing.T) {
	s := source(92)
	archives := 0
	for range 20000 {
		b := []byte(archiveByTheWords(s.tree(s.below(5))))
		for range 1 + s.below(3) {
			i := 4 + s.below(len(b)-4)
			b[i] = byte(s.below(1 << s.below(9)))
		}
		if isAsTheWordsSay(t, string(b)) {
			archives++
		}
	}
	if archives < 1000 || archives > 19000 {
		t.Error(archives, "archives: the test's bytes tell little")
	}
}

// No two trees have the same archive, and each is read as it was.
func TestNoTwoTreesOfOneArchive(t *testing.T) {
	fields := func(name string) []api.Node {
		return []api.Node{
			dir(name), file(name, ""), file(name, "\x00"), link(name, "a"), link(name, "\x01"), device(name, 0, 0), device(name, 0, 1), device(name, 1, 0),
			{Kind: api.Dir, Name: name, Mode: 1}, {Kind: api.Dir, Name: name, Mode: 256}, {Kind: api.Dir, Name: name, UID: 1}, {Kind: api.Dir, Name: name, GID: 1},
			{Kind: api.Dir, Name: name, Mtime: 1}, {Kind: api.Dir, Name: name, Mtime: 1 << 32}, {Kind: api.Dir, Name: name, Attrs: []api.Attr{{Key: "a"}}},
			{Kind: api.Dir, Name: name, Attrs: []api.Attr{{Key: "a", Value: "b"}}}, {Kind: api.Dir, Name: name, Attrs: []api.Attr{{Key: "a"}, {Key: "b"}}},
			{Kind: api.Dir, Name: name, Attrs: []api.Attr{{Key: "ab"}}},
		}
	}
	trees := []api.Node{dir("")}
	for _, name := range []string{"a", "b", "ab"} {
		for _, kid := range fields(name) {
			trees = append(trees, dir("", kid), dir("", dir("a", kid)), dir("", dir("a"), func() api.Node { k := kid; k.Name = "c" + k.Name; return k }()))
		}
	}
	of := map[string]api.Node{}
	for _, n := range trees {
		b, e := arch.Write(n)
		if e != api.OK {
			t.Fatal(n, e)
		}
		if other, twice := of[string(b)]; twice && !tree.Same(other, n) {
			t.Errorf("%v and %v: %q", n, other, b)
		}
		of[string(b)] = n
		isArchive(t, n)
	}
	distinct := 0
	for i, n := range trees {
		if !slices.ContainsFunc(trees[:i], func(x api.Node) bool { return tree.Same(x, n) }) {
			distinct++
		}
	}
	if len(of) != distinct {
		t.Error(len(of), "archives of", distinct, "trees")
	}
}

// Bytes that tell of more nodes, or deeper ones, than there is room for: they are given up at once.
func TestReadOfManyAndDeep(t *testing.T) {
	defer debug.SetMaxStack(debug.SetMaxStack(2 << 20))
	head := "LTR1\x01" + strings.Repeat("\x00", 20)
	within := "\x01\x01d" + strings.Repeat("\x00", 19)
	beside := within + "\x00"
	const many = 300000
	isNone(t, "deep", head+strings.Repeat(within, many)+strings.Repeat("\x00", many+1))
	isNone(t, "deep, and cut off", head+strings.Repeat(within, many))
	isNone(t, "many", head+strings.Repeat(beside, many)+"\x00")
	isNone(t, "many, and cut off", head+strings.Repeat(beside, many))
	isNone(t, "many noughts", head+strings.Repeat("\x00", 1<<24))
	isNone(t, "many ones", head+strings.Repeat("\x01", 1<<24))
	isNone(t, "many 255", head+strings.Repeat("\xff", 1<<24))
	if _, e := arch.Write(chain(many)); e != api.ErrRange {
		t.Error(e)
	}
	arch.Size(chain(many)) // any number, but it ends
}

// allocated is how many bytes of memory something takes in all.
func allocated(do func()) uint64 {
	var before, behind runtime.MemStats
	runtime.ReadMemStats(&before)
	do()
	runtime.ReadMemStats(&behind)
	return behind.TotalAlloc - before.TotalAlloc
}

// A tree has 64 nodes at most: bytes that tell of more take no more memory than that.
func TestMemoryIsBounded(t *testing.T) {
	head := "LTR1\x01" + strings.Repeat("\x00", 20)
	within := "\x01\x03dir" + strings.Repeat("\x00", 19)
	for what, rest := range map[string]string{
		"beside":      strings.Repeat(within+"\x00", 100000),
		"within":      strings.Repeat(within, 100000),
		"no nodes":    strings.Repeat(within+"\x00", 63) + strings.Repeat("\x01", 100000),
		"noughts":     strings.Repeat("\x00", 100000),
		"other kinds": strings.Repeat("\x05\x03dir"+strings.Repeat("\x00", 19), 100000),
	} {
		b := []byte(head + rest)
		if took := allocated(func() { arch.Read(b) }); took > 1<<18 {
			t.Errorf("%s: %d bytes of memory", what, took)
		}
	}
}

// spared is a list with room behind it, and all of that room.
func spared(s string) (b, room []byte) {
	room = append([]byte(s), "spare room that is not ours"...)
	return room[:len(s)], slices.Clone(room)
}

func TestNothingHandedInIsChanged(t *testing.T) {
	b, before := spared(archiveByTheWords(sample()))
	arch.Read(b)
	arch.List(b)
	if !bytes.Equal(b[:cap(b)][:len(before)], before) {
		t.Error("Read or List changed their bytes")
	}
	n := sample()
	data, dataBefore := spared("data")
	n.Kids[1].Data = data
	n.Kids = append(make([]api.Node, 0, 20), n.Kids...)
	n.Attrs = append(make([]api.Attr, 0, 20), n.Attrs...)
	copied := tree.Clone(n)
	arch.Write(n)
	arch.Size(n)
	if !reflect.DeepEqual(tree.Clone(n), copied) || !bytes.Equal(data[:cap(data)][:len(dataBefore)], dataBefore) {
		t.Error("Write or Size changed their node")
	}
	for _, kid := range n.Kids[:20][len(n.Kids):] {
		if !reflect.DeepEqual(kid, api.Node{}) {
			t.Error("Write or Size filled spare room of Kids")
		}
	}
	for _, a := range n.Attrs[:20][len(n.Attrs):] {
		if a != (api.Attr{}) {
			t.Error("Write or Size filled spare room of Attrs")
		}
	}
}

func TestAnswersAreNewMemory(t *testing.T) {
	want := archiveByTheWords(sample())
	b := []byte(want)
	n, _ := arch.Read(b)
	again, _ := arch.Read(b)
	l, _ := arch.List(b)
	clear(b)
	if !tree.Same(n, sample()) || !slices.Equal(l, pathsByTheWords(sample(), "")) {
		t.Error("what was read changes with the bytes")
	}
	scribble(&n)
	if !tree.Same(again, sample()) {
		t.Error("two answers share memory")
	}
	from := sample()
	first, _ := arch.Write(from)
	second, _ := arch.Write(from)
	scribble(&from)
	if string(first) != want {
		t.Error("an archive changes with its tree")
	}
	clear(first[:cap(first)])
	if string(second) != want || !tree.Same(again, sample()) {
		t.Error("two archives share memory")
	}
}

// No two lists of a tree that was read stand in one another's spare room.
func TestListsDoNotShareRoom(t *testing.T) {
	n, _ := arch.Read([]byte(archiveByTheWords(sample())))
	want := tree.Clone(n)
	appendAll(&n)
	if !tree.Same(n, want) {
		t.Error("a list's spare room is another one's")
	}
}

func appendAll(n *api.Node) {
	_ = append(n.Data, "more and more and more"...)
	_ = append(n.Attrs, api.Attr{Key: "more"})
	_ = append(n.Kids, dir("more"))
	for i := range n.Kids {
		appendAll(&n.Kids[i])
	}
}

// scribble changes all that lists hold.
func scribble(n *api.Node) {
	for i := range n.Data {
		n.Data[i] ^= 1
	}
	for i := range n.Attrs {
		n.Attrs[i].Key += "!"
	}
	for i := range n.Kids {
		scribble(&n.Kids[i])
		n.Kids[i].Name += "!"
	}
}

// Nil and empty lists are one.
func TestEmptyLists(t *testing.T) {
	n := api.Node{Kind: api.Dir, Data: []byte{}, Attrs: []api.Attr{}, Kids: []api.Node{{Kind: api.File, Name: "a", Data: []byte{}, Kids: []api.Node{}}}}
	isArchive(t, n)
}

func TestSizeWithoutArchive(t *testing.T) {
	if size := arch.Size(greatest()); size != 26+63*(1+25+19+4*50+4+4096) {
		t.Error(size)
	}
}
