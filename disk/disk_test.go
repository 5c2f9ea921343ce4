package disk_test

import (
	"bytes"
	"math"
	"slices"
	"strconv"
	"strings"
	"testing"
	"unsafe"

	"lighterage/api"
	"lighterage/disk"
)

// A call of a disk, as the tests write it down.
type call struct {
	what byte // one of w r m s: Write, Rename, Remove, Sync
	name string
	to   string // of a Rename
	data string // of a Write
}

func wr(name, data string) call { return call{what: 'w', name: name, data: data} }
func rn(from, to string) call   { return call{what: 'r', name: from, to: to} }
func rm(name string) call       { return call{what: 'm', name: name} }
func sy() call                  { return call{what: 's'} }

func (c call) text() string {
	return string(c.what) + "(" + strconv.Quote(c.name) + " " + strconv.Quote(c.to) + " " + strconv.Quote(c.data) + ")"
}

func texts(l []call) string {
	s := ""
	for _, c := range l {
		s += c.text() + " "
	}
	return s
}

func do(d *disk.Disk, c call) api.Errno {
	switch c.what {
	case 'w':
		return d.Write(c.name, []byte(c.data))
	case 'r':
		return d.Rename(c.name, c.to)
	case 'm':
		return d.Remove(c.name)
	}
	return d.Sync()
}

// doAll does calls, none of which may tell an error.
func doAll(t *testing.T, d *disk.Disk, l ...call) {
	t.Helper()
	for i, c := range l {
		if e := do(d, c); e != api.OK {
			t.Fatalf("call %d, %s: %v", i, c.text(), e)
		}
	}
}

func newDisk(t *testing.T, room int) *disk.Disk {
	t.Helper()
	d, e := disk.New(room)
	if e != api.OK || d == nil {
		t.Fatal(room, e)
	}
	return d
}

// A file, and a list of such by their names: the words of the chapter hold them with no map.
type file struct{ name, data string }

func without(l []file, name string) []file {
	var out []file
	for _, f := range l {
		if f.name != name {
			out = append(out, f)
		}
	}
	return out
}

func with(l []file, name, data string) []file {
	out := append(without(l, name), file{name, data})
	slices.SortFunc(out, func(a, b file) int { return bytes.Compare([]byte(a.name), []byte(b.name)) })
	return out
}

func find(l []file, name string) (string, bool) {
	for _, f := range l {
		if f.name == name {
			return f.data, true
		}
	}
	return "", false
}

func size(l []file) int {
	n := 0
	for _, f := range l {
		n += len(f.data)
	}
	return n
}

func show(l []file) string {
	s := ""
	for _, f := range l {
		s += strconv.Quote(f.name) + "=" + strconv.Quote(f.data) + " "
	}
	return s
}

// model is a disk by the words of the chapter: what lasts, and which changes wait; what is seen is worked out anew each
// time it is asked for.
type model struct {
	room, power int
	lasts       []file
	waits       []call
}

func newModel(room int) *model { return &model{room: room, power: -1} }

// after is a list of files behind a change that is made, whole.
func after(l []file, c call) []file {
	switch c.what {
	case 'w':
		return with(l, c.name, c.data)
	case 'm':
		return without(l, c.name)
	}
	data, ok := find(l, c.name)
	if !ok || c.name == c.to {
		return l
	}
	return with(without(l, c.name), c.to, data)
}

func (m *model) seen() []file {
	l := m.lasts
	for _, c := range m.waits {
		l = after(l, c)
	}
	return l
}

func nameMay(p string) bool {
	n := 0
	for _, c := range []byte(p) {
		if c == 0 {
			return false
		}
		n++
	}
	return n >= 1 && n <= 96
}

// refused is the error of a call, or OK.
func (m *model) refused(c call) api.Errno {
	if c.what == 'w' && !nameMay(c.name) || c.what == 'r' && !nameMay(c.to) {
		return api.ErrArg
	}
	if m.power == 0 {
		return api.ErrDown
	}
	if _, ok := find(m.seen(), c.name); !ok && (c.what == 'r' || c.what == 'm') {
		return api.ErrNone
	}
	if c.what == 'w' && size(with(m.seen(), c.name, c.data)) > m.room {
		return api.ErrFull
	}
	return api.OK
}

func (m *model) do(c call) api.Errno {
	if e := m.refused(c); e != api.OK {
		return e
	}
	if m.power > 0 {
		m.power--
	}
	if c.what == 's' {
		m.lasts = m.seen()
		m.waits = nil
	} else {
		m.waits = append(m.waits, c)
	}
	return api.OK
}

func (m *model) restart(keep []bool) {
	told := 0
	bit := func() bool {
		told++
		return told <= len(keep) && keep[told-1]
	}
	for _, c := range m.waits {
		if !bit() {
			continue
		}
		if c.what == 'w' && !bit() {
			c.data = c.data[:(len(c.data)-len(c.data)%2)/2]
		}
		m.lasts = after(m.lasts, c)
	}
	m.waits = nil
	m.power = -1
}

// hold holds all that a disk tells against the words.
func hold(t *testing.T, d *disk.Disk, m *model, where string) {
	t.Helper()
	want := m.seen()
	var names []string
	for _, f := range want {
		names = append(names, f.name)
	}
	if l := d.List(""); !slices.Equal(l, names) {
		t.Fatalf("%s: List = %q, want %q", where, l, names)
	}
	if d.Used() != size(want) || d.Waits() != len(m.waits) || d.Up() != (m.power != 0) {
		t.Fatalf("%s: Used %d, Waits %d, Up %v, want %d, %d, %v", where, d.Used(), d.Waits(), d.Up(), size(want), len(m.waits), m.power != 0)
	}
	for _, f := range want {
		b, e := d.Read(f.name)
		if m.power == 0 {
			if len(b) != 0 || e != api.ErrDown {
				t.Fatalf("%s: Read(%q) = %q, %v, want ErrDown", where, f.name, b, e)
			}
		} else if string(b) != f.data || e != api.OK {
			t.Fatalf("%s: Read(%q) = %q, %v, want %q", where, f.name, b, e, f.data)
		}
	}
}

// is holds what is seen on a disk that is not down against a text of it.
func is(t *testing.T, d *disk.Disk, want ...file) {
	t.Helper()
	var got []file
	for _, name := range d.List("") {
		b, e := d.Read(name)
		if e != api.OK {
			t.Errorf("Read(%q): %v", name, e)
		}
		got = append(got, file{name, string(b)})
	}
	if !slices.Equal(got, want) {
		t.Errorf("there is %s, want %s", show(got), show(want))
	}
	if d.Used() != size(want) {
		t.Errorf("Used = %d, want %d", d.Used(), size(want))
	}
}

// allBits are all rows of n bits.
func allBits(n int) [][]bool {
	var l [][]bool
	for x := range 1 << n {
		row := make([]bool, n)
		for i := range row {
			row[i] = x>>i&1 == 1
		}
		l = append(l, row)
	}
	return l
}

// P12.1: New.

func TestNew(t *testing.T) {
	for _, room := range []int{1, 2, 3, 100, 65536, 1<<20 - 1, 1 << 20} {
		d := newDisk(t, room)
		if len(d.List("")) != 0 || d.Used() != 0 || d.Waits() != 0 || !d.Up() {
			t.Errorf("New(%d) is not empty, or down", room)
		}
		if e := d.Write("a", make([]byte, room)); e != api.OK {
			t.Errorf("New(%d): no room for that many bytes: %v", room, e)
		}
		if e := d.Write("b", []byte("x")); e != api.ErrFull {
			t.Errorf("New(%d): room for more: %v", room, e)
		}
	}
	for _, room := range []int{0, -1, -1 << 20, 1<<20 + 1, 1 << 21, 1<<32 + 1, math.MaxInt, math.MinInt} {
		if d, e := disk.New(room); d != nil || e != api.ErrArg {
			t.Errorf("New(%d) = %v, %v, want nil, ErrArg", room, d, e)
		}
	}
}

func TestPowerOfANewDiskHasNoBound(t *testing.T) {
	d := newDisk(t, 100)
	for i := range 5000 {
		doAll(t, d, wr("a", strconv.Itoa(i)), rn("a", "b"), sy(), rm("b"))
	}
}

func TestDisksAreApart(t *testing.T) {
	a, b := newDisk(t, 10), newDisk(t, 10)
	doAll(t, a, wr("x", "1"), sy(), wr("y", "2"))
	a.Power(0)
	is(t, b)
	if b.Waits() != 0 || !b.Up() {
		t.Error("one disk sees the other")
	}
}

// P12.1: names.

func someNames() (good, bad []string) {
	for n := 1; n <= 96; n++ {
		good = append(good, strings.Repeat("x", n))
	}
	for c := 1; c < 256; c++ {
		good = append(good, string([]byte{byte(c)}), string([]byte{'a', byte(c), 'b'}))
	}
	good = append(good, strings.Repeat("\u00e9", 48), strings.Repeat("\xff", 96), ".", "..", "/", "//", "a/b/c/d/e/f/g/h", "a//b", " ", "\n")
	bad = append(bad, "", "\x00", strings.Repeat("\u00e9", 49), strings.Repeat("\u00e9", 96))
	for n := 97; n <= 300; n++ {
		bad = append(bad, strings.Repeat("x", n))
	}
	for _, n := range []int{1, 2, 3, 95, 96} {
		for i := range n {
			b := bytes.Repeat([]byte("x"), n)
			b[i] = 0
			bad = append(bad, string(b))
		}
	}
	return good, append(bad, strings.Repeat("x", 1<<16), "x"+strings.Repeat("\x00", 200))
}

func TestNames(t *testing.T) {
	good, bad := someNames()
	for _, p := range good {
		d := newDisk(t, 10)
		doAll(t, d, wr(p, "abc"), sy())
		is(t, d, file{p, "abc"})
		doAll(t, d, rn(p, "q q"), rn("q q", p), rm(p), wr("a b", "1"), rn("a b", p))
		is(t, d, file{p, "1"})
	}
	for _, p := range bad {
		d := newDisk(t, 10)
		doAll(t, d, wr("a", "abc"), sy())
		if e := d.Write(p, []byte("x")); e != api.ErrArg {
			t.Errorf("Write(%q): %v", p, e)
		}
		if e := d.Rename("a", p); e != api.ErrArg {
			t.Errorf("Rename(a, %q): %v", p, e)
		}
		if e := d.Rename(p, "b"); e != api.ErrNone {
			t.Errorf("Rename(%q, b): %v", p, e)
		}
		if e := d.Remove(p); e != api.ErrNone {
			t.Errorf("Remove(%q): %v", p, e)
		}
		if b, e := d.Read(p); e != api.ErrNone || len(b) != 0 {
			t.Errorf("Read(%q): %q, %v", p, b, e)
		}
		if is(t, d, file{"a", "abc"}); d.Waits() != 0 {
			t.Errorf("%q: something waits", p)
		}
	}
}

// P12.1: which error is told where several apply.

func TestOrderOfErrors(t *testing.T) {
	long, big := strings.Repeat("x", 97), strings.Repeat("y", 11)
	for _, x := range []struct {
		c        call
		up, down api.Errno
	}{
		{wr("", big), api.ErrArg, api.ErrArg},
		{wr("\x00", ""), api.ErrArg, api.ErrArg},
		{wr(long, big), api.ErrArg, api.ErrArg},
		{wr("a", big), api.ErrFull, api.ErrDown},
		{wr("b", big), api.ErrFull, api.ErrDown},
		{wr("b", "12345678"), api.ErrFull, api.ErrDown},
		{wr("b", "1"), api.OK, api.ErrDown},
		{rn("a", ""), api.ErrArg, api.ErrArg},
		{rn("z", ""), api.ErrArg, api.ErrArg},
		{rn("", ""), api.ErrArg, api.ErrArg},
		{rn("", long), api.ErrArg, api.ErrArg},
		{rn("a", "a\x00"), api.ErrArg, api.ErrArg},
		{rn("z", "y"), api.ErrNone, api.ErrDown},
		{rn("", "y"), api.ErrNone, api.ErrDown},
		{rn(long, "y"), api.ErrNone, api.ErrDown},
		{rn("z", "z"), api.ErrNone, api.ErrDown},
		{rn("z", "a"), api.ErrNone, api.ErrDown},
		{rn("a", "z"), api.OK, api.ErrDown},
		{rn("a", "a"), api.OK, api.ErrDown},
		{rm(""), api.ErrNone, api.ErrDown},
		{rm(long), api.ErrNone, api.ErrDown},
		{rm("z"), api.ErrNone, api.ErrDown},
		{rm("a"), api.OK, api.ErrDown},
		{sy(), api.OK, api.ErrDown},
	} {
		d := newDisk(t, 10)
		doAll(t, d, wr("a", "123"), sy())
		d.Power(0)
		if e := do(d, x.c); e != x.down {
			t.Errorf("%s: down: %v, want %v", x.c.text(), e, x.down)
		}
		d.Power(-1)
		if is(t, d, file{"a", "123"}); d.Waits() != 0 {
			t.Errorf("%s: down, it changed something", x.c.text())
		}
		if e := do(d, x.c); e != x.up {
			t.Errorf("%s: %v, want %v", x.c.text(), e, x.up)
		}
		if x.up != api.OK {
			if is(t, d, file{"a", "123"}); d.Waits() != 0 {
				t.Errorf("%s: refused, it changed something", x.c.text())
			}
		}
	}
	d := newDisk(t, 10)
	doAll(t, d, wr("a", "123"))
	d.Power(0)
	for _, p := range []string{"a", "b", "", "\x00", long} {
		if b, e := d.Read(p); len(b) != 0 || e != api.ErrDown {
			t.Errorf("Read(%q) of a disk that is down: %q, %v", p, b, e)
		}
	}
}

// P12.1: room.

func TestRoom(t *testing.T) {
	d := newDisk(t, 10)
	for i, x := range []struct {
		c    call
		e    api.Errno
		used int
	}{
		{wr("a", "0123456789"), api.OK, 10},
		{wr("a", "9876543210"), api.OK, 10}, // the bytes that it had do not count
		{wr("a", "01234567890"), api.ErrFull, 10},
		{wr("b", ""), api.OK, 10},
		{wr("b", "1"), api.ErrFull, 10},
		{wr(strings.Repeat("n", 96), ""), api.OK, 10}, // nor do names
		{wr("a", "012345678"), api.OK, 9},
		{wr("b", "12"), api.ErrFull, 9},
		{wr("b", "1"), api.OK, 10},
		{rn("a", "c"), api.OK, 10},
		{wr("d", "1"), api.ErrFull, 10},
		{rn("b", "c"), api.OK, 1}, // what had the name is no more
		{wr("d", "0123456789"), api.ErrFull, 1},
		{wr("d", "012345678"), api.OK, 10},
		{rm("d"), api.OK, 1},
		{wr("d", "01234567"), api.OK, 9},
		{rn("d", "d"), api.OK, 9},
		{wr("e", "12"), api.ErrFull, 9},
		{wr("c", ""), api.OK, 8},
		{wr("c", "12"), api.OK, 10},
	} {
		if e := do(d, x.c); e != x.e || d.Used() != x.used {
			t.Errorf("%d, %s: %v, Used %d, want %v, %d", i, x.c.text(), e, d.Used(), x.e, x.used)
		}
	}
	is(t, d, file{"c", "12"}, file{"d", "01234567"}, file{strings.Repeat("n", 96), ""})
}

func TestRoomGoesByWhatIsSeen(t *testing.T) {
	d := newDisk(t, 10)
	doAll(t, d, wr("a", "0123456789"), sy(), rm("a"), wr("b", "0123456789")) // a lasts still
	d.Restart([]bool{false, true, true})
	is(t, d, file{"a", "0123456789"}, file{"b", "0123456789"}) // more than the room
	for _, c := range []call{wr("c", ""), wr("a", "1"), wr("b", ""), wr("b", "0123456789")} {
		want := api.ErrFull
		if c.name == "b" && c.data == "" {
			want = api.OK // ten bytes together
		}
		if e := do(d, c); e != want {
			t.Errorf("%s: %v, want %v", c.text(), e, want)
		}
	}
	doAll(t, d, rn("a", "c"), rm("b"))
	is(t, d, file{"c", "0123456789"})
}

func TestManyBytes(t *testing.T) {
	whole := bytes.Repeat([]byte("abcdefgh"), 1<<17)
	d := newDisk(t, 1<<20)
	if e := d.Write("a", append(whole, 'x')); e != api.ErrFull {
		t.Error(e)
	}
	if e := d.Write("a", whole); e != api.OK {
		t.Error(e)
	}
	if b, e := d.Read("a"); !bytes.Equal(b, whole) || e != api.OK {
		t.Error(len(b), e)
	}
	d.Restart([]bool{true})
	if b, e := d.Read("a"); !bytes.Equal(b, whole[:1<<19]) || e != api.OK {
		t.Error(len(b), e)
	}
}

func TestManyFiles(t *testing.T) {
	d := newDisk(t, 1)
	for i := range 5000 {
		doAll(t, d, wr("f"+strconv.Itoa(i), ""), sy())
	}
	if n := len(d.List("")); n != 5000 || d.Used() != 0 {
		t.Error(n, d.Used())
	}
}

// P12.1: what is seen at once.

func TestEachChangeIsSeenAtOnce(t *testing.T) {
	d := newDisk(t, 100)
	for i, x := range []struct {
		c     call
		waits int
		want  []file
	}{
		{wr("a", "1"), 1, []file{{"a", "1"}}},
		{wr("a", "22"), 2, []file{{"a", "22"}}},
		{wr("b", ""), 3, []file{{"a", "22"}, {"b", ""}}},
		{rn("a", "b"), 4, []file{{"b", "22"}}},
		{rn("b", "b"), 5, []file{{"b", "22"}}},
		{sy(), 0, []file{{"b", "22"}}},
		{sy(), 0, []file{{"b", "22"}}},
		{rn("b", "b"), 1, []file{{"b", "22"}}},
		{rn("b", "c"), 2, []file{{"c", "22"}}},
		{wr("b", "\x00\xff"), 3, []file{{"b", "\x00\xff"}, {"c", "22"}}},
		{rm("c"), 4, []file{{"b", "\x00\xff"}}},
		{rm("b"), 5, nil},
		{wr("b", "4"), 6, []file{{"b", "4"}}},
		{sy(), 0, []file{{"b", "4"}}},
	} {
		doAll(t, d, x.c)
		if is(t, d, x.want...); d.Waits() != x.waits {
			t.Errorf("%d, %s: Waits = %d, want %d", i, x.c.text(), d.Waits(), x.waits)
		}
	}
}

func TestAFileWithoutBytesIsThere(t *testing.T) {
	for _, b := range [][]byte{nil, {}} {
		d := newDisk(t, 1)
		if e := d.Write("a", b); e != api.OK {
			t.Error(e)
		}
		if got, e := d.Read("a"); len(got) != 0 || e != api.OK {
			t.Errorf("%q, %v", got, e)
		}
		is(t, d, file{"a", ""})
		doAll(t, d, rn("a", "b"), rm("b"))
		is(t, d)
	}
}

// P12.2: List.

func TestList(t *testing.T) {
	d := newDisk(t, 10)
	rising := []string{"\x01", " ", "A", "a", "a\x01", "a ", "a.b", "a/", "a/b", "a/b/c", "a/c", "a0", "aa", "b", "b/", "c/00/x", "c/01/x", "c0", "\u00e9", "\xfe", "\xff", "\xff\xff"}
	if !slices.IsSorted(rising) {
		t.Fatal("the test's own names do not rise")
	}
	row := slices.Clone(rising)
	for i := range row { // another row
		j := (i*7 + 3) % len(row)
		row[i], row[j] = row[j], row[i]
	}
	for _, p := range row {
		doAll(t, d, wr(p, ""))
	}
	prefixes := []string{"", "a", "a/", "a/b", "a/b/c", "a/b/c/d", "b", "c", "c/", "c/0", "c/00/", "x", "\xff", "\xff\xff", "\xff\xff\xff", "\xc3", "\x00", "a\x00", strings.Repeat("a", 97)}
	want := map[string][]string{}
	for _, prefix := range prefixes {
		for _, p := range rising {
			if len(p) >= len(prefix) && p[:len(prefix)] == prefix {
				want[prefix] = append(want[prefix], p)
			}
		}
	}
	tell := func(when string) {
		for _, prefix := range prefixes {
			if l := d.List(prefix); !slices.Equal(l, want[prefix]) {
				t.Errorf("%s: List(%q) = %q, want %q", when, prefix, l, want[prefix])
			}
		}
	}
	tell("waiting")
	doAll(t, d, sy())
	tell("synced")
	d.Power(0)
	tell("down")
	d.Restart(nil)
	tell("restarted")
}

// P12.3: power.

func TestPowerCountsCallsThatAreDone(t *testing.T) {
	calls := []call{wr("a", "1"), wr("b", "2"), rn("a", "c"), sy(), rm("b"), sy(), rn("c", "c"), wr("c", "")}
	for n := range len(calls) + 3 {
		d, m := newDisk(t, 10), newModel(10)
		d.Power(n)
		m.power = n
		for i, c := range calls {
			if d.Up() != (i < n) {
				t.Errorf("power %d, behind %d calls: Up = %v", n, i, d.Up())
			}
			e := do(d, c)
			if want := m.do(c); e != want || (e == api.OK) != (i < n) {
				t.Errorf("power %d, call %d, %s: %v, want %v", n, i, c.text(), e, want)
			}
			hold(t, d, m, "power "+strconv.Itoa(n)+", call "+strconv.Itoa(i))
		}
	}
}

func TestWhatDoesNotSpendPower(t *testing.T) {
	d := newDisk(t, 10)
	doAll(t, d, wr("a", "123"), sy())
	d.Power(2)
	for range 5 {
		for _, c := range []call{wr("", ""), wr("b", "12345678"), wr("a", "01234567890"), rn("z", "y"), rn("a", ""), rn("z", "z"), rm("z"), rm("")} {
			if do(d, c) == api.OK {
				t.Errorf("%s is done", c.text())
			}
		}
		d.Read("a")
		d.Read("z")
		d.List("")
		d.Used()
		d.Waits()
		if !d.Up() {
			t.Fatal("that has spent power")
		}
	}
	doAll(t, d, sy())
	if !d.Up() {
		t.Error("one call of two has spent all")
	}
	doAll(t, d, rn("a", "a"))
	if d.Up() {
		t.Error("two calls have not spent all")
	}
}

func TestPowerAnew(t *testing.T) {
	d := newDisk(t, 100)
	d.Power(1)
	doAll(t, d, wr("a", "1"))
	d.Power(2) // what waits goes on waiting
	if !d.Up() || d.Waits() != 1 {
		t.Error(d.Up(), d.Waits())
	}
	doAll(t, d, wr("b", "2"), rn("b", "c"))
	if do(d, sy()) != api.ErrDown || d.Waits() != 3 {
		t.Error("it is not down", d.Waits())
	}
	d.Power(3)
	d.Power(1) // the last word holds
	doAll(t, d, sy())
	if d.Up() || d.Waits() != 0 {
		t.Error(d.Up(), d.Waits())
	}
	d.Power(math.MinInt)
	is(t, d, file{"a", "1"}, file{"c", "2"})
	for _, n := range []int{-1, -2, math.MinInt, math.MaxInt, 1 << 32} {
		d.Power(0)
		d.Power(n)
		for range 300 {
			doAll(t, d, wr("a", "1"), sy())
		}
		if !d.Up() {
			t.Error(n)
		}
	}
}

func TestADiskThatIsDownIsAsItWas(t *testing.T) {
	for _, synced := range []bool{false, true} {
		d, m := newDisk(t, 10), newModel(10)
		l := []call{wr("a", "123"), wr("b", "")}
		if synced {
			l = append(l, sy(), rn("a", "d"))
		}
		for _, c := range l {
			doAll(t, d, c)
			m.do(c)
		}
		d.Power(0)
		m.power = 0
		for range 3 {
			for _, c := range []call{wr("a", "4"), wr("c", "4"), rn("b", "c"), rn("d", "b"), rn("b", "b"), rm("b"), rm("z"), sy(), wr("c", "01234567890")} {
				if e := do(d, c); e != api.ErrDown {
					t.Errorf("%s: %v", c.text(), e)
				}
				hold(t, d, m, "down")
			}
		}
	}
}

// P12.3: a restart.

func bitsOf(s string) []bool {
	var l []bool
	for _, c := range s {
		l = append(l, c == '1')
	}
	return l
}

func TestRestart(t *testing.T) {
	for _, x := range []struct {
		lasts []call
		waits []call
		bits  string
		want  []file
	}{
		{nil, nil, "", nil},
		{nil, nil, "1111", nil},
		{nil, []call{wr("a", "1234")}, "", nil},
		{nil, []call{wr("a", "1234")}, "0", nil},
		{nil, []call{wr("a", "1234")}, "01111", nil}, // of a change that is lost no further bit is told
		{nil, []call{wr("a", "1234")}, "1", []file{{"a", "12"}}},
		{nil, []call{wr("a", "1234")}, "10", []file{{"a", "12"}}},
		{nil, []call{wr("a", "1234")}, "11", []file{{"a", "1234"}}},
		{nil, []call{wr("a", "1234")}, "110000", []file{{"a", "1234"}}},
		{nil, []call{wr("a", "12"), wr("b", "34")}, "011", []file{{"b", "34"}}},
		{nil, []call{wr("a", "12"), wr("b", "34")}, "101", []file{{"a", "1"}, {"b", "3"}}},
		{nil, []call{wr("a", "12"), wr("b", "34")}, "1101", []file{{"a", "12"}}},
		{nil, []call{wr("a", "12"), wr("b", "34")}, "1110", []file{{"a", "12"}, {"b", "3"}}},
		{nil, []call{wr("a", "12"), wr("a", "34")}, "111", []file{{"a", "3"}}},
		{nil, []call{wr("a", "12"), wr("a", "34")}, "110", []file{{"a", "12"}}},
		{nil, []call{wr("a", ""), wr("b", "34")}, "1011", []file{{"a", ""}, {"b", "34"}}}, // two bits of a file without bytes, too
		{[]call{wr("a", "5678")}, []call{wr("a", "12")}, "0", []file{{"a", "5678"}}},
		{[]call{wr("a", "5678")}, []call{wr("a", "12")}, "10", []file{{"a", "1"}}},
		{[]call{wr("a", "5678")}, []call{wr("a", "12")}, "11", []file{{"a", "12"}}},
		{[]call{wr("a", "5678")}, []call{rm("a")}, "0", []file{{"a", "5678"}}},
		{[]call{wr("a", "5678")}, []call{rm("a")}, "1", nil},
		{[]call{wr("a", "5678")}, []call{rm("a"), wr("a", "1")}, "011", []file{{"a", "1"}}},
		{[]call{wr("a", "5678")}, []call{rm("a"), wr("a", "1")}, "10", nil},
		{[]call{wr("a", "5678")}, []call{rm("a"), wr("a", "1")}, "110", []file{{"a", ""}}},
		{[]call{wr("a", "1"), wr("b", "2")}, []call{rn("a", "b")}, "0", []file{{"a", "1"}, {"b", "2"}}},
		{[]call{wr("a", "1"), wr("b", "2")}, []call{rn("a", "b")}, "1", []file{{"b", "1"}}},
		{[]call{wr("a", "1"), wr("b", "2")}, []call{rn("a", "c"), rn("b", "a"), rn("c", "b")}, "111", []file{{"a", "2"}, {"b", "1"}}},
		{[]call{wr("a", "1"), wr("b", "2")}, []call{rn("a", "c"), rn("b", "a"), rn("c", "b")}, "011", []file{{"a", "2"}}}, // no c lasts: the last one does nothing
		{[]call{wr("a", "1"), wr("b", "2")}, []call{rn("a", "c"), rn("b", "a"), rn("c", "b")}, "101", []file{{"b", "1"}}},
		{[]call{wr("b", "2")}, []call{wr("a", "1"), rn("a", "b")}, "01", []file{{"b", "2"}}}, // what has the new name stays
		{[]call{wr("b", "2")}, []call{wr("a", "13"), rn("a", "b")}, "101", []file{{"b", "1"}}},
		{[]call{wr("b", "2")}, []call{wr("a", "13"), rn("a", "b")}, "111", []file{{"b", "13"}}},
		{[]call{wr("b", "2")}, []call{wr("a", "13"), rn("a", "b")}, "110", []file{{"a", "13"}, {"b", "2"}}},
		{[]call{wr("b", "2")}, []call{wr("a", "13"), rm("a")}, "01", []file{{"b", "2"}}},
		{nil, []call{wr("a", "13"), rn("a", "a"), wr("b", "4")}, "01111", []file{{"b", "4"}}},
		{nil, []call{wr("a", "13"), rn("a", "a"), wr("b", "4")}, "11111", []file{{"a", "13"}, {"b", "4"}}},
		{nil, []call{wr("a", "13"), rn("a", "a"), wr("b", "4")}, "11011", []file{{"a", "13"}, {"b", "4"}}}, // it is told a bit, too
		{nil, []call{wr("a", "13"), rn("a", "a"), wr("b", "4")}, "1101", []file{{"a", "13"}, {"b", ""}}},
		{[]call{wr("a", "1")}, []call{rn("a", "b"), rm("b")}, "01", []file{{"a", "1"}}},
		{[]call{wr("a", "1")}, []call{rn("a", "b"), rm("b")}, "10", []file{{"b", "1"}}},
		{[]call{wr("a", "1")}, []call{rn("a", "b"), rm("b")}, "11", nil},
	} {
		for power := range 2 {
			d := newDisk(t, 100)
			doAll(t, d, append(slices.Clone(x.lasts), sy())...)
			doAll(t, d, x.waits...)
			d.Power(power)
			d.Restart(bitsOf(x.bits))
			if !d.Up() || d.Waits() != 0 {
				t.Errorf("Up %v, Waits %d behind a restart", d.Up(), d.Waits())
			}
			if is(t, d, x.want...); t.Failed() {
				t.Fatalf("%s, then %s: bits %s", texts(x.lasts), texts(x.waits), x.bits)
			}
			d.Restart(bitsOf("1111111111")) // nothing waits any more
			is(t, d, x.want...)
		}
	}
}

func TestHalves(t *testing.T) {
	const all = "0123456789"
	for n := range len(all) + 1 {
		d := newDisk(t, 100)
		doAll(t, d, wr("a", all[:n]))
		d.Restart([]bool{true, false})
		is(t, d, file{"a", all[:n/2]})
		doAll(t, d, wr("a", all[:n]))
		d.Restart([]bool{true, true})
		is(t, d, file{"a", all[:n]})
	}
}

func TestPowerBehindARestartHasNoBound(t *testing.T) {
	for _, n := range []int{0, 1, 2, 100, -1} {
		d := newDisk(t, 100)
		d.Power(n)
		d.Restart(nil)
		for range 300 {
			doAll(t, d, wr("a", "1"), sy())
		}
		if !d.Up() {
			t.Error(n)
		}
	}
}

// All scripts of few calls, each with all bits.
func TestAllFewCalls(t *testing.T) {
	alphabet := []call{wr("a", "1234"), wr("a", "567"), wr("b", "89"), rn("a", "b"), rn("b", "a"), rn("a", "a"), rm("a"), rm("b"), sy()}
	scripts := [][]call{nil}
	for from := 0; len(scripts[from]) < 4; from++ {
		for _, c := range alphabet {
			scripts = append(scripts, append(slices.Clip(scripts[from]), c))
		}
	}
	for _, script := range scripts {
		told := 0
		for _, c := range script {
			if told++; c.what == 'w' {
				told++
			} else if c.what == 's' {
				told = 0
			}
		}
		for _, keep := range allBits(told) {
			d, m := newDisk(t, 7), newModel(7)
			for _, c := range script {
				if e, want := do(d, c), m.do(c); e != want {
					t.Fatalf("%s: %s: %v, want %v", texts(script), c.text(), e, want)
				}
			}
			hold(t, d, m, texts(script))
			d.Restart(keep)
			m.restart(keep)
			hold(t, d, m, texts(script)+"bits")
		}
	}
}

// chance is a row of numbers that is the same each time.
type chance struct{ x uint64 }

func (c *chance) below(n int) int {
	c.x = c.x*6364136223846793005 + 1442695040888963407
	return int(c.x>>33) % n
}

func (c *chance) text() string {
	return strings.Repeat(string(rune('a'+c.below(26))), c.below(7)) + "0123456789"[:c.below(4)]
}

func (c *chance) bits() []bool {
	var l []bool
	for range c.below(40) {
		l = append(l, c.below(3) > 0)
	}
	return l
}

func (c *chance) call() call {
	names := []string{"a", "b", "c/1", "c/2", "c/3", "d", "", "x\x00", strings.Repeat("n", 96), strings.Repeat("n", 97)}
	name := names[c.below(len(names))]
	switch n := c.below(20); {
	case n < 10:
		return wr(name, c.text())
	case n < 14:
		return rn(name, names[c.below(len(names))])
	case n < 17:
		return rm(name)
	}
	return sy()
}

func TestLongScripts(t *testing.T) {
	done := map[api.Errno]int{}
	for seed := range 300 {
		c := &chance{uint64(seed)}
		room := 1 + c.below(40)
		d, m := newDisk(t, room), newModel(room)
		for i := range 200 {
			where := "script " + strconv.Itoa(seed) + ", step " + strconv.Itoa(i)
			switch n := c.below(40); {
			case n == 0:
				keep := c.bits()
				d.Restart(keep)
				m.restart(keep)
			case n == 1:
				m.power = c.below(12) - 1
				d.Power(m.power)
			default:
				x := c.call()
				e, want := do(d, x), m.do(x)
				done[e]++
				if e != want {
					t.Fatalf("%s: %s: %v, want %v", where, x.text(), e, want)
				}
			}
			hold(t, d, m, where)
		}
	}
	for _, e := range []api.Errno{api.OK, api.ErrArg, api.ErrNone, api.ErrFull, api.ErrDown} {
		if done[e] < 500 {
			t.Error(e, done[e], "times: the test tells little")
		}
	}
}

// P12.4.

func TestWhatWasSyncedIsThere(t *testing.T) {
	for seed := range 200 {
		c := &chance{uint64(seed) + 1000}
		d := newDisk(t, 60)
		for range 60 {
			do(d, c.call())
			if c.below(9) == 0 {
				d.Restart(c.bits())
			}
		}
		doAll(t, d, sy())
		var want []file
		for _, name := range d.List("") {
			b, _ := d.Read(name)
			want = append(want, file{name, string(b)})
		}
		for range 4 {
			d.Power(c.below(2))
			d.Restart(c.bits())
			is(t, d, want...)
		}
	}
}

// outcomes are all that some of changes make, in their row, of what lasts.
func outcomes(lasts []file, l []call) map[string]bool {
	if len(l) == 0 {
		return map[string]bool{show(lasts): true}
	}
	out := outcomes(lasts, l[1:])
	made := []call{l[0]}
	if l[0].what == 'w' {
		made = append(made, wr(l[0].name, l[0].data[:len(l[0].data)/2]))
	}
	for _, c := range made {
		for s := range outcomes(after(lasts, c), l[1:]) {
			out[s] = true
		}
	}
	return out
}

func TestWhatIsThereIsWhatSomeChangesMade(t *testing.T) {
	waits := []call{wr("a", "12"), wr("b", "3456"), rn("a", "b"), rm("c"), rn("b", "c"), wr("a", "7")}
	lasts := []file{{"a", "old"}, {"c", "other"}}
	may := outcomes(lasts, waits)
	got := map[string]bool{}
	for _, keep := range allBits(9) {
		d := newDisk(t, 100)
		for _, f := range lasts {
			doAll(t, d, wr(f.name, f.data))
		}
		doAll(t, d, sy())
		doAll(t, d, waits...)
		d.Restart(keep)
		var l []file
		for _, name := range d.List("") {
			b, _ := d.Read(name)
			l = append(l, file{name, string(b)})
		}
		if got[show(l)] = true; !may[show(l)] {
			t.Errorf("bits %v: %s", keep, show(l))
		}
	}
	if len(got) != len(may) {
		t.Error(len(got), "of", len(may), "outcomes")
	}
}

// The rules that hold everywhere.

func TestWhatIsHandedInIsNotKept(t *testing.T) {
	d := newDisk(t, 100)
	whole := []byte("12345678")
	if e := d.Write("a", whole[:4]); e != api.OK {
		t.Fatal(e)
	}
	if string(whole) != "12345678" {
		t.Errorf("%q: Write changed its bytes, or the room behind them", whole)
	}
	clear(whole)
	is(t, d, file{"a", "1234"})
	doAll(t, d, sy())
	is(t, d, file{"a", "1234"})
	b := []byte("56")
	d.Write("a", b)
	clear(b)
	keep := []bool{true, true, false, true}
	d.Restart(keep)
	is(t, d, file{"a", "56"})
	if !slices.Equal(keep, []bool{true, true, false, true}) {
		t.Error("Restart changed the bits")
	}
}

// A name may be a piece of a long text, which is not to be kept with it.
func TestNamesAreNotKept(t *testing.T) {
	long := strings.Repeat("abcdefgh", 1000)
	inside := func(s string) bool {
		at, begin := uintptr(unsafe.Pointer(unsafe.StringData(s))), uintptr(unsafe.Pointer(unsafe.StringData(long)))
		return begin <= at && at < begin+uintptr(len(long))
	}
	d := newDisk(t, 100)
	doAll(t, d, wr(long[:8], "1"), wr(long[8:18], "2"), rn(long[8:18], long[8:20]))
	for range 2 {
		l := d.List(long[:1])
		if len(l) != 2 || inside(l[0]) || inside(l[1]) {
			t.Errorf("%q, of the text that was handed in", l)
		}
		d.Restart([]bool{true, true, true, true, true})
	}
}

func TestAnswersAreNewMemory(t *testing.T) {
	d := newDisk(t, 100)
	doAll(t, d, wr("a", "1234"), wr("b", "5678"))
	for range 3 {
		b, _ := d.Read("a")
		other, _ := d.Read("a")
		clear(b[:cap(b)])
		if string(other) != "1234" {
			t.Errorf("%q: two answers share memory", other)
		}
		l := d.List("")
		names := d.List("")
		clear(l[:cap(l)])
		if !slices.Equal(names, []string{"a", "b"}) {
			t.Errorf("%q: two answers share memory", names)
		}
		is(t, d, file{"a", "1234"}, file{"b", "5678"})
		doAll(t, d, sy())
	}
	b, _ := d.Read("a")
	_ = append(b, "zzzz"...)
	clear(b)
	d.Restart(nil)
	is(t, d, file{"a", "1234"}, file{"b", "5678"})
}

// What is read stays as it was, whatever comes of the file.
func TestWhatWasReadStays(t *testing.T) {
	d := newDisk(t, 100)
	doAll(t, d, wr("a", "1234"))
	b, _ := d.Read("a")
	doAll(t, d, wr("a", "5678"), sy(), rm("a"))
	d.Restart([]bool{true})
	if string(b) != "1234" {
		t.Errorf("%q", b)
	}
}

// What a restart leaves lasts on its own: what is changed then is not in it.
func TestWhatLastsIsApartFromWhatIsSeen(t *testing.T) {
	d := newDisk(t, 100)
	doAll(t, d, wr("a", "1234"), sy())
	d.Restart(nil)
	doAll(t, d, wr("a", "5"), wr("b", "6"), rn("a", "c"))
	d.Restart(nil)
	is(t, d, file{"a", "1234"})
	doAll(t, d, rm("a"))
	d.Restart(nil)
	is(t, d, file{"a", "1234"})
}
