package sweep_test

import (
	"bytes"
	"crypto/sha256"
	"encoding/hex"
	"slices"
	"strconv"
	"testing"

	"lighterage/api"
	"lighterage/disk"
	"lighterage/frame"
	"lighterage/index"
	"lighterage/store"
	"lighterage/sweep"
)

// What the tests hold the sweep against is worked out by the words of the chapter, with Go's own digests and digits.

func nameOf(b []byte) api.Digest { return sha256.Sum256(b) }

func placeOf(name api.Digest) string {
	digits := hex.EncodeToString(name[:])
	return "c/" + digits[:2] + "/" + digits
}

func aheadOf(name api.Digest) string { return "t/" + hex.EncodeToString(name[:]) }

func newDisk(t *testing.T, room int) *disk.Disk {
	t.Helper()
	d, e := disk.New(room)
	if e != api.OK {
		t.Fatal(room, e)
	}
	return d
}

func write(t *testing.T, d *disk.Disk, p string, b []byte) {
	t.Helper()
	if e := d.Write(p, b); e != api.OK {
		t.Fatal(p, e)
	}
}

func sync(t *testing.T, d *disk.Disk) {
	t.Helper()
	if e := d.Sync(); e != api.OK {
		t.Fatal(e)
	}
}

func put(t *testing.T, d *disk.Disk, b []byte) api.Digest {
	t.Helper()
	name, e := store.Put(d, b)
	if e != api.OK {
		t.Fatal(e)
	}
	return name
}

// putAll puts chunks; their names in their row.
func putAll(t *testing.T, d *disk.Disk, chunks ...string) []api.Digest {
	t.Helper()
	var names []api.Digest
	for _, s := range chunks {
		names = append(names, put(t, d, []byte(s)))
	}
	return names
}

// sorted are names as they stand, each once.
func sorted(names ...api.Digest) []api.Digest {
	l := slices.Clone(names)
	slices.SortFunc(l, func(a, b api.Digest) int { return bytes.Compare(a[:], b[:]) })
	return slices.Compact(l)
}

// of is an index of such items.
func of(names ...api.Digest) index.Index {
	x := index.Index{Params: api.Params{Min: 1, Avg: 1, Max: 9}, Image: nameOf([]byte("image"))}
	for i, name := range names {
		x.Items = append(x.Items, api.Item{Name: name, Size: 1 + i%9})
	}
	return x
}

// A file, as it is seen.
type file struct{ name, data string }

func seen(t *testing.T, d *disk.Disk) []file {
	t.Helper()
	var l []file
	for _, p := range d.List("") {
		b, e := d.Read(p)
		if e != api.OK {
			t.Fatal(p, e)
		}
		l = append(l, file{p, string(b)})
	}
	return l
}

// without is files without those at the places of names.
func without(l []file, names ...api.Digest) []file {
	var left []file
	for _, f := range l {
		if !slices.ContainsFunc(names, func(name api.Digest) bool { return placeOf(name) == f.name }) {
			left = append(left, f)
		}
	}
	return left
}

func is(t *testing.T, where string, d *disk.Disk, want []file) {
	t.Helper()
	if got := seen(t, d); !slices.Equal(got, want) {
		t.Fatalf("%s: there is %q, want %q", where, got, want)
	}
}

func allBits(n int) [][]bool {
	var l [][]bool
	for x := range 1 << n {
		row := make([]bool, n)
		for i := range row {
			row[i] = x>>i&1 == 1
		}
		l = append(l, row)
	}
	return l
}

// chance is a row of numbers that is the same at each run.
type chance struct{ x uint64 }

func (c *chance) below(n int) int {
	c.x = c.x*6364136223846793005 + 1442695040888963407
	return int(c.x >> 33 % uint64(n))
}

func (c *chance) bytes(n int) []byte {
	b := make([]byte, n)
	for i := range b {
		b[i] = byte(c.below(256))
	}
	return b
}

func (c *chance) bits() []bool {
	l := make([]bool, c.below(12))
	for i := range l {
		l[i] = c.below(2) == 1
	}
	return l
}

// some are some of names, in any row, some of them doubled.
func (c *chance) some(names []api.Digest) []api.Digest {
	var l []api.Digest
	for range c.below(len(names) + 1) {
		l = append(l, names[c.below(len(names))])
	}
	return l
}

// P14.1: Loose.

func loose(t *testing.T, where string, d *disk.Disk, want []api.Digest, keep ...index.Index) {
	t.Helper()
	if l := sweep.Loose(d, keep...); !slices.Equal(l, sorted(want...)) {
		t.Errorf("%s: Loose = %x, want %x", where, l, sorted(want...))
	}
}

func TestLoose(t *testing.T) {
	d := newDisk(t, api.MaxDisk)
	loose(t, "an empty store", d, nil)
	other := nameOf([]byte("other"))
	loose(t, "an empty store, with something to keep", d, nil, of(other))
	n := putAll(t, d, "a", "b", "c", "d", "e", "f")
	loose(t, "no index", d, n)
	loose(t, "an index without items", d, n, of())
	loose(t, "the zero index", d, n, index.Index{})
	loose(t, "one", d, n[1:], of(n[0]))
	loose(t, "one, doubled", d, n[1:], of(n[0], n[0], n[0]))
	loose(t, "two of one", d, []api.Digest{n[0], n[2], n[3], n[5]}, of(n[4], n[1]))
	loose(t, "two of two", d, []api.Digest{n[0], n[2], n[3], n[5]}, of(n[4]), of(n[1]))
	loose(t, "two of two and nothing", d, []api.Digest{n[0], n[2], n[3], n[5]}, of(), of(n[4]), of(), of(n[1], n[4]), of())
	loose(t, "what is not there", d, n, of(other, nameOf(nil)))
	loose(t, "what is not there, among others", d, n[3:], of(n[2], other, n[0]), of(other, n[1]))
	loose(t, "all", d, nil, of(n...))
	loose(t, "all, and more", d, nil, of(n[:3]...), of(other), of(n[2:]...))
}

// Files that are not good are loose, too, and none that is no place; the Image of an index is no chunk.
func TestLooseGoesByList(t *testing.T) {
	d := newDisk(t, 5000)
	n := putAll(t, d, "a", "b")
	bad := nameOf([]byte("bad"))
	write(t, d, placeOf(bad), []byte("junk"))
	write(t, d, aheadOf(nameOf([]byte("ahead"))), frame.Seal([]byte("ahead")))
	write(t, d, "c/x", nil)
	write(t, d, placeOf(n[0])+"0", nil)
	loose(t, "a bad one", d, append(slices.Clone(n), bad))
	loose(t, "a bad one that is kept", d, n, of(bad))
	x := of(n[1])
	x.Image = n[0]
	loose(t, "an image", d, []api.Digest{n[0], bad}, x)
	d.Power(0)
	loose(t, "down", d, []api.Digest{n[0], bad}, x)
	d.Restart(nil)
	loose(t, "behind a restart", d, n)
}

// Digests that differ in one byte, whichever, are apart, and stand as they stand.
func TestLooseTellsNamesApart(t *testing.T) {
	d := newDisk(t, 5000)
	var all []api.Digest
	for i := range api.Size {
		for _, c := range []byte{1, 15, 16, 127, 128, 255} {
			name := api.Digest{}
			name[i] = c
			all = append(all, name)
			write(t, d, placeOf(name), nil)
		}
	}
	loose(t, "none is kept", d, all)
	for i := range all {
		loose(t, strconv.Itoa(i), d, slices.Delete(slices.Clone(all), i, i+1), of(all[i]))
	}
}

func TestLooseIsTheSameAtEachCall(t *testing.T) {
	d := newDisk(t, 50000)
	c := &chance{1}
	var all []api.Digest
	for range 60 {
		all = append(all, put(t, d, c.bytes(20)))
	}
	for range 100 {
		loose(t, "again", d, all[5:], of(all[:5]...))
	}
}

// P14.1: Whole.

func TestWhole(t *testing.T) {
	d := newDisk(t, 5000)
	n := putAll(t, d, "a", "b", "c", "")
	none, bad, ahead := nameOf([]byte("none")), nameOf([]byte("bad")), nameOf([]byte("ahead"))
	write(t, d, placeOf(bad), frame.Seal([]byte("dab")))
	write(t, d, aheadOf(ahead), frame.Seal([]byte("ahead")))
	write(t, d, placeOf(nameOf([]byte("waits"))), frame.Seal([]byte("waits")))
	cases := []struct {
		items []api.Digest
		want  bool
	}{
		{nil, true}, {n[:1], true}, {n, true}, {append(slices.Clone(n), n...), true}, {[]api.Digest{n[2], n[0], n[2]}, true},
		{[]api.Digest{nameOf([]byte("waits"))}, true},
		{[]api.Digest{none}, false}, {[]api.Digest{bad}, false}, {[]api.Digest{ahead}, false}, {[]api.Digest{{}}, false},
		{append(slices.Clone(n), none), false}, {append([]api.Digest{none}, n...), false}, {[]api.Digest{n[0], bad, n[1]}, false},
		{append(slices.Clone(n), bad), false}, {append([]api.Digest{bad}, n...), false}, {[]api.Digest{none, bad, ahead}, false},
	}
	for i, c := range cases {
		if got := sweep.Whole(d, of(c.items...)); got != c.want {
			t.Errorf("case %d: Whole = %v", i, got)
		}
	}
	x := of(n...)
	x.Image = none // the image's own digest is no chunk's
	if !sweep.Whole(d, x) || !sweep.Whole(d, index.Index{}) {
		t.Error("Whole of what is all there")
	}
	d.Power(0)
	if sweep.Whole(d, of(n[0])) || !sweep.Whole(d, of()) {
		t.Error("Whole of a disk that is down")
	}
	d.Restart(nil)
	if !sweep.Whole(d, of(n...)) || sweep.Whole(d, of(nameOf([]byte("waits")))) {
		t.Error("Whole behind a restart")
	}
}

func TestWholeOfAnImage(t *testing.T) {
	image := (&chance{3}).bytes(3000)
	x, e := index.Of(image, api.Params{Min: 10, Avg: 64, Max: 200})
	if e != api.OK || len(x.Items) < 10 {
		t.Fatal(e, len(x.Items))
	}
	d := newDisk(t, 10000)
	at := 0
	for _, item := range x.Items {
		if sweep.Whole(d, x) {
			t.Fatal("Whole ahead of the last chunk")
		}
		put(t, d, image[at:at+item.Size])
		at += item.Size
	}
	if !sweep.Whole(d, x) {
		t.Fatal("not Whole")
	}
	if n, e := sweep.Prune(d, x); n != 0 || e != api.OK || !sweep.Whole(d, x) {
		t.Error("Prune:", n, e)
	}
	for _, item := range x.Items {
		f, _ := d.Read(placeOf(item.Name))
		f[len(f)-1]++
		write(t, d, placeOf(item.Name), f)
		if sweep.Whole(d, x) {
			t.Fatal("Whole with a chunk that is not good")
		}
		f[len(f)-1]--
		write(t, d, placeOf(item.Name), f)
	}
	if !sweep.Whole(d, x) {
		t.Fatal("not Whole again")
	}
}

// P14.2.

func pruned(t *testing.T, where string, d *disk.Disk, n int, want api.Errno, keep ...index.Index) {
	t.Helper()
	if got, e := sweep.Prune(d, keep...); got != n || e != want {
		t.Fatalf("%s: Prune = %d, %v, want %d, %v", where, got, e, n, want)
	}
}

func TestPrune(t *testing.T) {
	chunks := []string{"a", "b", "c", "d", "", "hello, hello, hello"}
	for bits := range 1 << len(chunks) {
		d := newDisk(t, 5000)
		n := putAll(t, d, chunks...)
		other := nameOf([]byte("other"))
		write(t, d, aheadOf(n[0]), []byte("left"))
		write(t, d, "c/x", []byte("y"))
		var keep, rest []api.Digest
		for i, name := range n {
			if bits>>i&1 == 1 {
				keep = append(keep, name)
			} else {
				rest = append(rest, name)
			}
		}
		want := without(seen(t, d), rest...)
		half := len(keep) / 2
		pruned(t, strconv.Itoa(bits), d, len(rest), api.OK, of(append(slices.Clone(keep[:half]), other)...), of(keep[half:]...), of(keep...))
		is(t, strconv.Itoa(bits), d, want)
		if !slices.Equal(store.List(d), sorted(keep...)) {
			t.Error(bits, "List")
		}
		if len(rest) > 0 && d.Waits() != 0 || len(rest) == 0 && d.Waits() != 2 {
			t.Errorf("%d: %d changes wait", bits, d.Waits())
		}
		pruned(t, "again", d, 0, api.OK, of(keep...))
	}
}

// Bad files are pruned as good ones are; those that are kept stay as they are.
func TestPruneOfWhatIsNotGood(t *testing.T) {
	d := newDisk(t, 5000)
	n := putAll(t, d, "a", "b")
	bad, kept := nameOf([]byte("bad")), nameOf([]byte("kept"))
	write(t, d, placeOf(bad), []byte("junk"))
	write(t, d, placeOf(kept), []byte("junk"))
	want := without(seen(t, d), bad, n[1])
	pruned(t, "bad", d, 2, api.OK, of(n[0], kept))
	is(t, "bad", d, want)
}

func TestPruneWithNothingLoose(t *testing.T) {
	d := newDisk(t, 5000)
	d.Power(1)
	pruned(t, "an empty store", d, 0, api.OK)
	d.Power(-1)
	n := putAll(t, d, "a", "b")
	write(t, d, "x", nil)
	d.Power(1)
	pruned(t, "all kept", d, 0, api.OK, of(n...))
	if d.Waits() != 1 || !d.Up() {
		t.Error(d.Waits(), "changes wait") // no Sync was done
	}
	d.Power(0)
	pruned(t, "all kept, but down", d, 0, api.ErrDown, of(n...))
	pruned(t, "nothing kept, and down", d, 0, api.ErrDown)
	if d.Waits() != 1 {
		t.Error(d.Waits(), "changes wait")
	}
	d.Restart(nil)
	if l := d.List(""); !slices.Equal(store.List(d), sorted(n...)) || len(l) != 2 {
		t.Errorf("%q", l)
	}
	pruned(t, "an empty disk that is down", func() *disk.Disk { d := newDisk(t, 1); d.Power(0); return d }(), 0, api.ErrDown)
}

// What waited ahead of a Prune is synced with it, if there was something to remove.
func TestPruneSyncs(t *testing.T) {
	d := newDisk(t, 5000)
	n := putAll(t, d, "a", "b")
	write(t, d, "x", []byte("1"))
	pruned(t, "one", d, 1, api.OK, of(n[0]))
	want := seen(t, d)
	d.Restart(nil)
	is(t, "behind a restart", d, want)
}

// Each Remove, and the Sync, is a call of the disk: the names go as they stand, and what was done stays.
func TestPruneWithPowerForSome(t *testing.T) {
	for count := range 6 {
		for power := range count + 3 {
			where := strconv.Itoa(count) + " loose, " + strconv.Itoa(power) + " calls"
			d := newDisk(t, 5000)
			kept := putAll(t, d, "keep", "this")
			c := &chance{uint64(count)}
			var names []api.Digest
			for range count {
				names = append(names, put(t, d, c.bytes(9)))
			}
			names = sorted(names...)
			before := seen(t, d)
			d.Power(power)
			removed, want := count, api.OK
			if power == 0 || count > 0 && power < count+1 {
				removed, want = min(power, count), api.ErrDown
			}
			answer := removed
			if want != api.OK {
				answer = 0
			}
			pruned(t, where, d, answer, want, of(kept...))
			if up := power > count+1 || count == 0 && power > 0; d.Up() != up {
				t.Errorf("%s: up %v", where, d.Up())
			}
			if waits := d.Waits(); want == api.OK && waits != 0 || want != api.OK && waits != removed {
				t.Errorf("%s: %d changes wait", where, waits)
			}
			d.Power(-1)
			is(t, where, d, without(before, names[:removed]...))
			d.Restart(nil)
			if want == api.OK {
				is(t, where+", behind a restart", d, without(before, names...))
			} else {
				is(t, where+", behind a restart", d, before)
			}
			pruned(t, where+", again", d, len(sweep.Loose(d, of(kept...))), api.OK, of(kept...))
			is(t, where+", again", d, without(before, names...))
		}
	}
}

// P14.3.

func scrubbed(t *testing.T, where string, d *disk.Disk, names []api.Digest, want api.Errno) {
	t.Helper()
	if l, e := sweep.Scrub(d); !slices.Equal(l, sorted(names...)) || e != want {
		t.Fatalf("%s: Scrub = %x, %v, want %x, %v", where, l, e, sorted(names...), want)
	}
}

func TestScrub(t *testing.T) {
	chunks := []string{"a", "b", "c", "d", "", "hello, hello, hello"}
	for bits := range 1 << len(chunks) {
		d := newDisk(t, 5000)
		n := putAll(t, d, chunks...)
		write(t, d, aheadOf(n[0]), []byte("left"))
		write(t, d, "c/x", []byte("y"))
		sync(t, d)
		before := seen(t, d)
		var bad []api.Digest
		for i, name := range n {
			if bits>>i&1 == 0 {
				continue
			}
			bad = append(bad, name)
			f, _ := d.Read(placeOf(name))
			switch i % 3 {
			case 0:
				write(t, d, placeOf(name), nil)
			case 1:
				write(t, d, placeOf(name), f[:len(f)-1])
			default:
				write(t, d, placeOf(name), frame.Seal([]byte("other")))
			}
		}
		scrubbed(t, strconv.Itoa(bits), d, bad, api.OK)
		is(t, strconv.Itoa(bits), d, without(before, bad...))
		if d.Waits() != 0 {
			t.Errorf("%d: %d changes wait", bits, d.Waits())
		}
		scrubbed(t, "again", d, nil, api.OK)
		is(t, "again", d, without(before, bad...))
		d.Restart(nil)
		is(t, "behind a restart", d, without(before, bad...))
	}
}

// What opens, but has more than a chunk, is not good; another frame of the same bytes is.
func TestScrubOfFramesThatOpen(t *testing.T) {
	d := newDisk(t, api.MaxDisk)
	large, most := make([]byte, 4097), make([]byte, 4096)
	for _, b := range [][]byte{large, most, []byte("a")} {
		write(t, d, placeOf(nameOf(b)), frame.Seal(b))
	}
	sync(t, d)
	before := seen(t, d)
	scrubbed(t, "frames", d, []api.Digest{nameOf(large)}, api.OK)
	is(t, "frames", d, without(before, nameOf(large)))
}

func TestScrubWithNothingBad(t *testing.T) {
	d := newDisk(t, 5000)
	d.Power(1)
	scrubbed(t, "an empty store", d, nil, api.OK)
	d.Power(-1)
	putAll(t, d, "a", "b")
	write(t, d, "x", nil)
	write(t, d, placeOf(nameOf([]byte("c"))), frame.Seal([]byte("c")))
	before := seen(t, d)
	d.Power(1)
	scrubbed(t, "all good", d, nil, api.OK)
	if d.Waits() != 2 || !d.Up() {
		t.Error(d.Waits(), "changes wait") // no Sync was done
	}
	d.Power(0)
	scrubbed(t, "all good, but down", d, nil, api.ErrDown)
	d.Power(-1)
	is(t, "all good", d, before)
	e := newDisk(t, 1)
	e.Power(0)
	scrubbed(t, "an empty disk that is down", e, nil, api.ErrDown)
}

func TestScrubWithPowerForSome(t *testing.T) {
	for count := range 6 {
		for power := range count + 3 {
			where := strconv.Itoa(count) + " bad, " + strconv.Itoa(power) + " calls"
			d := newDisk(t, 5000)
			putAll(t, d, "good", "ones")
			c := &chance{uint64(count)}
			var names []api.Digest
			for range count {
				name := api.Digest(c.bytes(api.Size))
				names = append(names, name)
				write(t, d, placeOf(name), []byte("junk"))
			}
			sync(t, d)
			before := seen(t, d)
			d.Power(power)
			removed, want := count, api.OK
			if power == 0 || count > 0 && power < count+1 {
				removed, want = min(power, count), api.ErrDown
			}
			if want == api.OK {
				scrubbed(t, where, d, names, want)
			} else {
				scrubbed(t, where, d, nil, want)
			}
			if up := power > count+1 || count == 0 && power > 0; d.Up() != up {
				t.Errorf("%s: up %v", where, d.Up())
			}
			if waits := d.Waits(); want == api.OK && waits != 0 || want != api.OK && waits != removed {
				t.Errorf("%s: %d changes wait", where, waits)
			}
			d.Power(-1)
			is(t, where, d, without(before, sorted(names...)[:removed]...))
			d.Restart(nil)
			if want == api.OK {
				is(t, where+", behind a restart", d, without(before, names...))
			} else {
				is(t, where+", behind a restart", d, before)
			}
			if _, e := sweep.Scrub(d); e != api.OK {
				t.Fatal(where, e)
			}
			is(t, where+", again", d, without(before, names...))
		}
	}
}

// P14.4.

// Whatever calls of a Prune are done, and whatever a restart leaves: what is kept is what it was, good or not.
func TestEachCrashOfAPrune(t *testing.T) {
	for power := range 7 {
		for _, keep := range allBits(6) {
			d := newDisk(t, 5000)
			n := putAll(t, d, "a", "b", "c", "d", "e", "f")
			bad := nameOf([]byte("bad"))
			write(t, d, placeOf(bad), []byte("junk"))
			sync(t, d)
			before := seen(t, d)
			rest := []api.Digest{n[0], n[2], n[3], n[5]}
			x, y := of(n[1], bad), of(n[4], nameOf([]byte("none")))
			d.Power(power)
			want, count := api.ErrDown, 0
			if power >= 5 {
				want, count = api.OK, 4
			}
			pruned(t, "power "+strconv.Itoa(power), d, count, want, x, y)
			d.Restart(keep)
			left := seen(t, d)
			if !slices.Equal(without(left, rest...), without(before, rest...)) {
				t.Fatalf("power %d, bits %v: there is %q", power, keep, left)
			}
			if want == api.OK && len(left) != 3 {
				t.Fatalf("power %d, bits %v: there is %q", power, keep, left)
			}
			if !sweep.Whole(d, of(n[1], n[4])) {
				t.Fatal("not whole")
			}
			pruned(t, "again", d, len(left)-3, api.OK, x, y)
			is(t, "again", d, without(before, rest...))
		}
	}
}

// What the chapter says of Loose, Prune and Scrub, by its words, on a disk of the test's own.

func looseByWords(d *disk.Disk, keep []index.Index) []api.Digest {
	var l []api.Digest
	for _, name := range store.List(d) {
		kept := false
		for _, x := range keep {
			for _, item := range x.Items {
				kept = kept || item.Name == name
			}
		}
		if !kept {
			l = append(l, name)
		}
	}
	return l
}

func removeByWords(d *disk.Disk, names []api.Digest) ([]api.Digest, api.Errno) {
	for _, name := range names {
		if e := d.Remove(placeOf(name)); e != api.OK {
			return nil, e
		}
	}
	if len(names) > 0 {
		if e := d.Sync(); e != api.OK {
			return nil, e
		}
	}
	return names, api.OK
}

func pruneByWords(d *disk.Disk, keep []index.Index) (int, api.Errno) {
	if !d.Up() {
		return 0, api.ErrDown
	}
	l, e := removeByWords(d, looseByWords(d, keep))
	return len(l), e
}

func scrubByWords(d *disk.Disk) ([]api.Digest, api.Errno) {
	if !d.Up() {
		return nil, api.ErrDown
	}
	var bad []api.Digest
	for _, name := range store.List(d) {
		f, _ := d.Read(placeOf(name))
		if b, e := frame.Open(f, 4096); e != api.OK || nameOf(b) != name {
			bad = append(bad, name)
		}
	}
	return removeByWords(d, bad)
}

// same holds all that two disks tell against each other.
func same(t *testing.T, where string, a, b *disk.Disk) {
	t.Helper()
	if !slices.Equal(a.List(""), b.List("")) || a.Used() != b.Used() || a.Waits() != b.Waits() || a.Up() != b.Up() {
		t.Fatalf("%s: files %q, want %q; %d wait, want %d", where, a.List(""), b.List(""), a.Waits(), b.Waits())
	}
	if a.Up() && !slices.Equal(seen(t, a), seen(t, b)) {
		t.Fatalf("%s: there is %q, want %q", where, seen(t, a), seen(t, b))
	}
}

// A script's step is done on a disk by the sweep, and on another one by the words.
func doStep(t *testing.T, c *chance, where string, d, w *disk.Disk, chunks [][]byte, keep []index.Index) {
	t.Helper()
	b := chunks[c.below(len(chunks))]
	switch c.below(10) {
	case 0, 1, 2:
		store.Put(d, b)
		store.Put(w, b)
	case 3, 4:
		n := c.below(9)
		d.Power(n)
		w.Power(n)
	case 5:
		bits := c.bits()
		d.Restart(bits)
		w.Restart(bits)
	case 6:
		p := []string{placeOf(nameOf(b)), aheadOf(nameOf(b)), "c/x"}[c.below(3)]
		junk := c.bytes(c.below(20))
		d.Write(p, junk)
		w.Write(p, junk)
	case 7, 8:
		n, e := sweep.Prune(d, keep...)
		if m, f := pruneByWords(w, keep); n != m || e != f {
			t.Fatalf("%s: Prune = %d, %v, want %d, %v", where, n, e, m, f)
		}
	case 9:
		l, e := sweep.Scrub(d)
		if m, f := scrubByWords(w); !slices.Equal(l, m) || e != f {
			t.Fatalf("%s: Scrub = %x, %v, want %x, %v", where, l, e, m, f)
		}
	}
}

func TestLongScripts(t *testing.T) {
	for run := range 150 {
		c := &chance{uint64(run)}
		var chunks [][]byte
		var names []api.Digest
		for range 10 {
			b := c.bytes(c.below(40))
			chunks, names = append(chunks, b), append(names, nameOf(b))
		}
		room := []int{100, 300, 5000}[run%3]
		d, w := newDisk(t, room), newDisk(t, room)
		for i := range 120 {
			where := "script " + strconv.Itoa(run) + ", step " + strconv.Itoa(i)
			var keep []index.Index
			for range c.below(4) {
				keep = append(keep, of(c.some(names)...))
			}
			doStep(t, c, where, d, w, chunks, keep)
			same(t, where, d, w)
			if l := sweep.Loose(d, keep...); !slices.Equal(l, looseByWords(w, keep)) {
				t.Fatalf("%s: Loose = %x", where, l)
			}
			x := of(c.some(names)...)
			whole := true
			for _, item := range x.Items {
				whole = whole && store.Has(w, item.Name)
			}
			if sweep.Whole(d, x) != whole {
				t.Fatalf("%s: Whole, want %v", where, whole)
			}
		}
	}
}

// What asks changes nothing, and spends nothing.
func TestAskingChangesNothing(t *testing.T) {
	d := newDisk(t, 5000)
	n := putAll(t, d, "a", "b")
	write(t, d, placeOf(nameOf([]byte("bad"))), []byte("junk"))
	before := seen(t, d)
	d.Power(1)
	for range 5 {
		sweep.Loose(d)
		sweep.Loose(d, of(n...))
		sweep.Whole(d, of(n...))
		sweep.Whole(d, of(nameOf([]byte("bad"))))
	}
	if d.Waits() != 1 || !d.Up() {
		t.Error(d.Waits(), "changes wait")
	}
	is(t, "asked", d, before)
}

// R4: what is handed in is not changed and not kept; what is answered is new memory.
func TestWhatIsHandedInStays(t *testing.T) {
	d := newDisk(t, 5000)
	n := putAll(t, d, "d", "a", "c", "b")
	items := of(n...).Items
	items = append(items, items...)
	whole := slices.Clone(items)
	x := of()
	x.Items = items[1:3] // spare room behind, that is another's
	keep := []index.Index{x, of(n[3]), of(n[0])}
	ahead := slices.Clone(keep)
	unchanged := func(where string) {
		t.Helper()
		if !slices.Equal(items, whole) || !slices.EqualFunc(keep, ahead, index.Same) {
			t.Error(where, "changes what is handed in")
		}
	}
	loose(t, "a piece", d, []api.Digest{n[0]}, keep[:2]...)
	unchanged("Loose")
	if !sweep.Whole(d, x) {
		t.Error("not whole")
	}
	unchanged("Whole")
	pruned(t, "a piece", d, 1, api.OK, keep[:2]...)
	unchanged("Prune")
	clear(items)
	pruned(t, "another time", d, 2, api.OK, of(n[3]))
}

func TestAnswersAreNewMemory(t *testing.T) {
	d := newDisk(t, 5000)
	n := putAll(t, d, "a", "b", "c")
	l := sweep.Loose(d)
	clear(l[:cap(l)])
	loose(t, "cleared", d, n)
	for _, name := range n {
		write(t, d, placeOf(name), nil)
	}
	sync(t, d)
	d.Power(1) // one is removed, then none
	scrubbed(t, "down", d, nil, api.ErrDown)
	d.Restart(nil)
	l, _ = sweep.Scrub(d)
	if !slices.Equal(l, sorted(n...)) {
		t.Errorf("Scrub = %x", l)
	}
	clear(l[:cap(l)])
	if len(store.List(d)) != 0 {
		t.Error("List")
	}
}
