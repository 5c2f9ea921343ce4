package store_test

import (
	"bytes"
	"crypto/sha256"
	"encoding/binary"
	"encoding/hex"
	"slices"
	"strconv"
	"strings"
	"testing"

	"lighterage/api"
	"lighterage/crc"
	"lighterage/disk"
	"lighterage/frame"
	"lighterage/sha"
	"lighterage/store"
)

// What the tests hold the store against is worked out by the words of the chapter, with Go's own digests and digits.

func nameOf(b []byte) api.Digest { return sha256.Sum256(b) }

func digitsOf(name api.Digest) string { return hex.EncodeToString(name[:]) }

func placeOf(name api.Digest) string { return "c/" + digitsOf(name)[:2] + "/" + digitsOf(name) }

func aheadOf(name api.Digest) string { return "t/" + digitsOf(name) }

// plain is a frame whose bytes are not packed.
func plain(b []byte) []byte {
	f := binary.LittleEndian.AppendUint32([]byte{76, 0}, uint32(len(b)))
	f = append(f, b...)
	return binary.LittleEndian.AppendUint32(f, crc.Sum(b))
}

// asLiterals is a frame whose bytes are packed, but each as a literal of its own: far more than they are.
func asLiterals(b []byte) []byte {
	f := binary.LittleEndian.AppendUint32([]byte{76, 1}, uint32(len(b)))
	for _, c := range b {
		f = append(f, 0, c)
	}
	return binary.LittleEndian.AppendUint32(f, crc.Sum(b))
}

func newDisk(t *testing.T, room int) *disk.Disk {
	t.Helper()
	d, e := disk.New(room)
	if e != api.OK {
		t.Fatal(room, e)
	}
	return d
}

func write(t *testing.T, d *disk.Disk, p string, b []byte) {
	t.Helper()
	if e := d.Write(p, b); e != api.OK {
		t.Fatal(p, e)
	}
}

func sync(t *testing.T, d *disk.Disk) {
	t.Helper()
	if e := d.Sync(); e != api.OK {
		t.Fatal(e)
	}
}

func put(t *testing.T, d *disk.Disk, b []byte) api.Digest {
	t.Helper()
	name, e := store.Put(d, b)
	if e != api.OK || name != nameOf(b) {
		t.Fatalf("Put of %d bytes: %s, %v", len(b), digitsOf(name), e)
	}
	return name
}

// A file, as it is seen.
type file struct{ name, data string }

// seen is all files of a disk. (Of one that is down none can be read.)
func seen(t *testing.T, d *disk.Disk) []file {
	t.Helper()
	var l []file
	for _, p := range d.List("") {
		b, e := d.Read(p)
		if e != api.OK {
			t.Fatal(p, e)
		}
		l = append(l, file{p, string(b)})
	}
	return l
}

func show(l []file) string {
	s := ""
	for _, f := range l {
		s += strconv.Quote(f.name) + "=" + strconv.Quote(f.data) + " "
	}
	return s
}

// is holds all that is seen on a disk against files by their names.
func is(t *testing.T, where string, d *disk.Disk, want ...file) {
	t.Helper()
	slices.SortFunc(want, func(a, b file) int { return strings.Compare(a.name, b.name) })
	if got := seen(t, d); !slices.Equal(got, want) {
		t.Errorf("%s: there is %s, want %s", where, show(got), show(want))
	}
}

// gets holds Get, Has and Missing, which go together, against a chunk, or an error.
func gets(t *testing.T, where string, d *disk.Disk, name api.Digest, want []byte, wantErr api.Errno) {
	t.Helper()
	b, e := store.Get(d, name)
	if e != wantErr || !bytes.Equal(b, want) {
		t.Fatalf("%s: Get = %q, %v, want %q, %v", where, b, e, want, wantErr)
	}
	if has := store.Has(d, name); has != (wantErr == api.OK) {
		t.Fatalf("%s: Has = %v, Get tells %v", where, has, wantErr)
	}
	if l := store.Missing(d, name); (len(l) == 0) != (wantErr == api.OK) || len(l) > 0 && (len(l) > 1 || l[0] != name) {
		t.Fatalf("%s: Missing = %v, Get tells %v", where, l, wantErr)
	}
}

// allBits are all rows of n bits.
func allBits(n int) [][]bool {
	var l [][]bool
	for x := range 1 << n {
		row := make([]bool, n)
		for i := range row {
			row[i] = x>>i&1 == 1
		}
		l = append(l, row)
	}
	return l
}

// chance is a row of numbers that is the same at each run.
type chance struct{ x uint64 }

func (c *chance) below(n int) int {
	c.x = c.x*6364136223846793005 + 1442695040888963407
	return int(c.x >> 33 % uint64(n))
}

func (c *chance) bytes(n int) []byte {
	b := make([]byte, n)
	for i := range b {
		b[i] = byte(c.below(256))
	}
	return b
}

func (c *chance) bits() []bool {
	l := make([]bool, c.below(12))
	for i := range l {
		l[i] = c.below(2) == 1
	}
	return l
}

// someChunks are bytes that may be chunks: of every kind of number, that pack and that do not.
func someChunks() [][]byte {
	c := &chance{7}
	l := [][]byte{nil, {}, {0}, {255}, []byte("hello"), []byte("world"), bytes.Repeat([]byte("a"), 8)}
	for _, n := range []int{2, 9, 10, 32, 127, 128, 129, 1000, 4094, 4095, 4096} {
		l = append(l, make([]byte, n), c.bytes(n), bytes.Repeat([]byte("ab"), n)[:n])
	}
	return append(l, plain([]byte("hello")), frame.Seal(make([]byte, 500)))
}

// P13.1: Place.

func TestPlace(t *testing.T) {
	if p := store.Place(api.Digest{}); p != "c/00/"+strings.Repeat("0", 64) {
		t.Error("of noughts:", p)
	}
	if p := store.Place(nameOf([]byte("abc"))); p != "c/ba/ba7816bf8f01cfea414140de5dae2223b00361a396177a9cb410ff61f20015ad" {
		t.Error("of abc:", p)
	}
	seen := map[string]bool{}
	for i := range 32 {
		for c := range 256 {
			name := nameOf([]byte{1})
			name[i] = byte(c)
			p := store.Place(name)
			if p != placeOf(name) {
				t.Fatalf("Place(%s) = %q", digitsOf(name), p)
			}
			seen[p] = true
		}
	}
	if len(seen) != 32*255+1 { // each byte's row has the name itself
		t.Error(len(seen), "places")
	}
}

// P13.1: Get and Has.

func TestGet(t *testing.T) {
	for i, b := range someChunks() {
		where := "chunk " + strconv.Itoa(i)
		for _, f := range [][]byte{frame.Seal(b), plain(b), asLiterals(b)} {
			d := newDisk(t, api.MaxDisk)
			name := nameOf(b)
			gets(t, where+", not there", d, name, nil, api.ErrNone)
			write(t, d, placeOf(name), f)
			gets(t, where+", that waits", d, name, b, api.OK)
			sync(t, d)
			gets(t, where, d, name, b, api.OK)
		}
	}
}

func TestGetOfWhatIsNotItsName(t *testing.T) {
	b := []byte("hello, hello, hello, hello")
	name, other := nameOf(b), nameOf([]byte("other"))
	d := newDisk(t, api.MaxDisk)
	for _, p := range []string{
		digitsOf(name), "c/" + digitsOf(name), aheadOf(name), "c/" + digitsOf(name)[:2] + "/" + digitsOf(name)[2:],
		"c/" + digitsOf(other)[:2] + "/" + digitsOf(name), strings.ToUpper(placeOf(name)), placeOf(name) + "/", placeOf(name)[:66],
		"c/" + digitsOf(name)[:2], "/" + placeOf(name),
	} {
		write(t, d, p, frame.Seal(b))
		gets(t, "in the file "+p, d, name, nil, api.ErrNone)
	}
	write(t, d, placeOf(other), frame.Seal(b))
	gets(t, "of another name", d, other, nil, api.ErrSum)
	gets(t, "in another's place", d, name, nil, api.ErrNone)
	write(t, d, placeOf(name), frame.Seal(b))
	gets(t, "in its own place", d, name, b, api.OK)
}

func TestGetOfWhatDoesNotOpen(t *testing.T) {
	for _, b := range [][]byte{nil, []byte("hello"), bytes.Repeat([]byte("hello"), 9)} {
		name, f := nameOf(b), frame.Seal(b)
		d := newDisk(t, api.MaxDisk)
		junk := [][]byte{nil, {76}, b, append([]byte{0}, f...), append(slices.Clone(f), 0), []byte("junk"), frame.Seal(f)}
		for n := range f {
			junk = append(junk, f[:n], f[n+1:])
			for bit := range 8 {
				spoilt := slices.Clone(f)
				spoilt[n] ^= 1 << bit
				junk = append(junk, spoilt)
			}
		}
		for _, x := range junk {
			write(t, d, placeOf(name), x)
			if got, e := frame.Open(x, 4096); e == api.OK && bytes.Equal(got, b) { // another frame of the same bytes
				gets(t, "other frame", d, name, b, api.OK)
			} else {
				gets(t, "junk "+strconv.Quote(string(x)), d, name, nil, api.ErrSum)
			}
		}
		write(t, d, placeOf(name), f)
		gets(t, "whole again", d, name, b, api.OK)
	}
}

func TestGetOfMoreThanAChunk(t *testing.T) {
	d := newDisk(t, api.MaxDisk)
	for _, n := range []int{4095, 4096, 4097, 4098, 5000, 8192, 65536} {
		for _, b := range [][]byte{make([]byte, n), (&chance{9}).bytes(n)} {
			name := nameOf(b)
			for _, f := range [][]byte{frame.Seal(b), plain(b)} {
				write(t, d, placeOf(name), f)
				if n <= 4096 {
					gets(t, strconv.Itoa(n), d, name, b, api.OK)
				} else {
					gets(t, strconv.Itoa(n), d, name, nil, api.ErrSum)
				}
			}
		}
	}
}

func TestGetOfADiskThatIsDown(t *testing.T) {
	d := newDisk(t, 5000)
	a := put(t, d, []byte("a"))
	bad, none := nameOf([]byte("bad")), nameOf([]byte("none"))
	write(t, d, placeOf(bad), []byte("junk"))
	d.Power(0)
	for _, name := range []api.Digest{a, bad, none} {
		gets(t, "down", d, name, nil, api.ErrDown)
	}
	d.Power(1)
	gets(t, "up", d, a, []byte("a"), api.OK)
	gets(t, "up", d, bad, nil, api.ErrSum)
	gets(t, "up", d, none, nil, api.ErrNone)
}

// P13.2: Put.

func TestPut(t *testing.T) {
	for i, b := range someChunks() {
		where := "chunk " + strconv.Itoa(i)
		d := newDisk(t, api.MaxDisk)
		name := put(t, d, b)
		if d.Waits() != 0 {
			t.Errorf("%s: %d changes wait", where, d.Waits())
		}
		is(t, where, d, file{placeOf(name), string(frame.Seal(b))})
		gets(t, where, d, name, b, api.OK)
		d.Restart(nil)
		gets(t, where+", behind a restart", d, name, b, api.OK)
	}
}

func TestPutOfMany(t *testing.T) {
	d := newDisk(t, api.MaxDisk)
	var all []file
	for _, b := range someChunks() {
		name := put(t, d, b)
		f := file{placeOf(name), string(frame.Seal(b))}
		if !slices.Contains(all, f) {
			all = append(all, f)
		}
		is(t, "one more", d, all...)
	}
	d.Restart(nil)
	for _, b := range someChunks() {
		gets(t, "of many", d, nameOf(b), b, api.OK)
	}
}

func refusedPut(t *testing.T, where string, d *disk.Disk, b []byte, want api.Errno) {
	t.Helper()
	if name, e := store.Put(d, b); e != want || name != (api.Digest{}) {
		t.Errorf("%s: Put = %s, %v, want the zero name, %v", where, digitsOf(name), e, want)
	}
}

func TestPutOfMoreThanAChunk(t *testing.T) {
	for _, n := range []int{4097, 4098, 5000, 8192, 65536, 1 << 20, 1<<20 + 1} {
		for _, b := range [][]byte{make([]byte, n), (&chance{3}).bytes(n)} {
			d := newDisk(t, api.MaxDisk)
			write(t, d, "x", []byte("1"))
			d.Power(9)
			refusedPut(t, strconv.Itoa(n), d, b, api.ErrRange)
			if d.Waits() != 1 {
				t.Error(n, "something was done")
			}
			is(t, strconv.Itoa(n), d, file{"x", "1"})
			for range 9 { // none of the power was spent
				sync(t, d)
			}
			if d.Up() {
				t.Error("there was more power than told")
			}
			refusedPut(t, "down", d, b, api.ErrRange)
		}
	}
}

// More bytes than a chunk has are refused, even where the file of their place is there.
func TestPutOfMoreThanAChunkThatIsThere(t *testing.T) {
	d := newDisk(t, api.MaxDisk)
	b := make([]byte, 4097)
	write(t, d, placeOf(nameOf(b)), frame.Seal(b))
	refusedPut(t, "there", d, b, api.ErrRange)
}

func TestPutWhereItIsGood(t *testing.T) {
	b := []byte("hello, hello, hello, hello")
	name := nameOf(b)
	for _, f := range [][]byte{frame.Seal(b), plain(b), asLiterals(b)} {
		d := newDisk(t, len(f)+3)
		write(t, d, placeOf(name), f)
		write(t, d, aheadOf(name), []byte("old"))
		for _, power := range []int{-1, 1, 2, 3, 4} {
			d.Power(power)
			put(t, d, b)
			if d.Waits() != 2 || !d.Up() {
				t.Errorf("power %d: %d changes wait", power, d.Waits())
			}
			is(t, "good", d, file{placeOf(name), string(f)}, file{aheadOf(name), "old"})
		}
		d.Power(1)
		put(t, d, b)
		sync(t, d) // the one call that was left
		if d.Up() {
			t.Error("there was more power than told")
		}
		refusedPut(t, "good, but down", d, b, api.ErrDown)
		d.Restart(nil)
		is(t, "good", d, file{placeOf(name), string(f)}, file{aheadOf(name), "old"})
	}
}

func TestPutWhereItIsNotGood(t *testing.T) {
	b := []byte("hello, hello, hello, hello")
	name, f := nameOf(b), frame.Seal(b)
	for _, junk := range [][]byte{nil, []byte("junk"), f[:len(f)-1], f[:len(f)/2], frame.Seal([]byte("other")), append(slices.Clone(f), 0)} {
		for _, left := range []bool{false, true} {
			d := newDisk(t, 5000)
			write(t, d, placeOf(name), junk)
			if left {
				write(t, d, aheadOf(name), junk)
			}
			gets(t, "bad", d, name, nil, api.ErrSum)
			put(t, d, b)
			if d.Waits() != 0 {
				t.Error(d.Waits(), "changes wait")
			}
			is(t, "good again", d, file{placeOf(name), string(f)})
			d.Restart(nil)
			gets(t, "good again", d, name, b, api.OK)
		}
	}
}

// Each of the four steps is a call of the disk; what was done stays, and the others are not begun.
func TestPutWithPowerForSome(t *testing.T) {
	b := []byte("hello, hello, hello, hello")
	name, f := nameOf(b), string(frame.Seal(b))
	half := f[:len(f)/2]
	old := file{"x", "1"}
	inPlace, ahead := file{placeOf(name), f}, file{aheadOf(name), f}
	cases := []struct {
		power, waits int
		seen         []file          // behind the Put
		left         map[string]file // behind a restart with these bits: besides the old file
	}{
		{0, 0, nil, map[string]file{"": {}, "11": {}}},
		{1, 1, []file{ahead}, map[string]file{"": {}, "0": {}, "01": {}, "1": {aheadOf(name), half}, "10": {aheadOf(name), half}, "11": ahead}},
		{2, 0, []file{ahead}, map[string]file{"": ahead, "0": ahead, "11": ahead}},
		{3, 1, []file{inPlace}, map[string]file{"": ahead, "0": ahead, "01": ahead, "1": inPlace, "10": inPlace}},
	}
	for _, c := range cases {
		for bits, left := range c.left {
			where := strconv.Itoa(c.power) + " calls, bits " + bits
			d := newDisk(t, 5000)
			write(t, d, old.name, []byte(old.data))
			sync(t, d)
			d.Power(c.power)
			refusedPut(t, where, d, b, api.ErrDown)
			if d.Waits() != c.waits || d.Up() {
				t.Errorf("%s: %d changes wait, up %v", where, d.Waits(), d.Up())
			}
			gets(t, where, d, name, nil, api.ErrDown)
			d.Power(-1)
			is(t, where, d, append([]file{old}, c.seen...)...)
			var keep []bool
			for _, bit := range bits {
				keep = append(keep, bit == '1')
			}
			d.Restart(keep)
			if left == (file{}) {
				is(t, where, d, old)
			} else {
				is(t, where, d, old, left)
			}
			put(t, d, b)
			is(t, where, d, old, inPlace)
		}
	}
	d := newDisk(t, 5000)
	d.Power(4)
	put(t, d, b)
	if d.Up() {
		t.Error("four calls were not all that were done")
	}
}

// What waited ahead of a Put is synced with what is written ahead.
func TestPutSyncsWhatIsAhead(t *testing.T) {
	for power, want := range []string{"", "", "1", "1", "1"} {
		d := newDisk(t, 5000)
		write(t, d, "x", []byte("1"))
		d.Power(power)
		if _, e := store.Put(d, []byte("hello")); (e == api.OK) != (power == 4) {
			t.Error(power, e)
		}
		d.Restart(nil)
		if b, _ := d.Read("x"); string(b) != want {
			t.Errorf("%d calls: %q", power, b)
		}
	}
}

func TestPutWithoutRoom(t *testing.T) {
	for _, b := range [][]byte{nil, []byte("hello"), bytes.Repeat([]byte("a"), 8), make([]byte, 4096), (&chance{5}).bytes(4096)} {
		n := len(frame.Seal(b))
		name := nameOf(b)

		d := newDisk(t, n)
		put(t, d, b)
		put(t, d, b)

		d = newDisk(t, n-1)
		d.Power(4)
		refusedPut(t, "one byte too few", d, b, api.ErrFull)
		if d.Waits() != 0 || len(d.List("")) != 0 || !d.Up() {
			t.Error("something was done")
		}
		d.Power(0)
		refusedPut(t, "full and down", d, b, api.ErrDown)

		d = newDisk(t, n+4)
		write(t, d, placeOf(name), []byte("junk")) // it stays till the chunk is written ahead
		put(t, d, b)
		is(t, "room for both", d, file{placeOf(name), string(frame.Seal(b))})

		d = newDisk(t, n+3)
		write(t, d, placeOf(name), []byte("bad!"))
		refusedPut(t, "no room for both", d, b, api.ErrFull)
		is(t, "no room for both", d, file{placeOf(name), "bad!"})

		d = newDisk(t, n+3)
		write(t, d, aheadOf(name), []byte("bad!")) // what is ahead is written over
		put(t, d, b)
		is(t, "what was left ahead", d, file{placeOf(name), string(frame.Seal(b))})
	}
}

// P13.3: List.

func listed(t *testing.T, where string, d *disk.Disk, want ...api.Digest) {
	t.Helper()
	want = slices.Clone(want)
	slices.SortFunc(want, func(a, b api.Digest) int { return bytes.Compare(a[:], b[:]) })
	if got := store.List(d); !slices.Equal(got, want) {
		t.Errorf("%s: List has %d names, want %d", where, len(got), len(want))
	}
}

func TestList(t *testing.T) {
	d := newDisk(t, api.MaxDisk)
	listed(t, "nothing", d)
	c := &chance{1}
	var all []api.Digest
	add := func(name api.Digest, b []byte) {
		write(t, d, placeOf(name), b)
		all = append(all, name)
	}
	for range 300 {
		add(api.Digest(c.bytes(32)), nil)
	}
	for x := range 256 { // digests that differ in one byte, the first and the last one too
		for _, i := range []int{0, 1, 16, 31} {
			name := nameOf([]byte("x"))
			name[i] = byte(x)
			if !slices.Contains(all, name) {
				add(name, []byte("junk"))
			}
		}
	}
	listed(t, "bad ones", d, all...)
	for i, b := range someChunks() {
		if name := nameOf(b); !slices.Contains(all, name) {
			add(name, frame.Seal(b))
			listed(t, "chunk "+strconv.Itoa(i), d, all...)
		}
	}
	d.Power(0)
	listed(t, "down", d, all...)
	d.Restart(nil)
	listed(t, "lost", d)
}

func TestListGoesByWhatIsSeen(t *testing.T) {
	d := newDisk(t, 5000)
	a, b := put(t, d, []byte("a")), put(t, d, []byte("b"))
	listed(t, "two", d, a, b)
	if e := d.Remove(placeOf(a)); e != api.OK {
		t.Fatal(e)
	}
	listed(t, "removed", d, b)
	if e := d.Rename(placeOf(b), placeOf(a)); e != api.OK {
		t.Fatal(e)
	}
	listed(t, "renamed", d, a)
	d.Restart(nil)
	listed(t, "as they were", d, a, b)
}

func TestListOfWhatIsNoPlace(t *testing.T) {
	name := nameOf([]byte{0, 'a'})
	digits, other := digitsOf(name), "00"
	if digits[:2] == other || strings.ToUpper(digits) == digits {
		t.Fatal(digits)
	}
	p := placeOf(name)
	bad := []string{
		"c", "c/", "c//", "c/" + digits, "c/" + digits[:2], "c/" + digits[:2] + "/", "c/" + digits[:2] + "/x", digits, "/" + p,
		"c/" + other + "/" + digits, "c//" + digits, "c/" + digits[:1] + "/" + digits, "c/" + digits[:3] + "/" + digits,
		"c/" + digits[:2] + "//" + digits, "c/" + digits[:2] + digits, "c/" + digits[:2] + "x" + digits, "c/x/" + digits[:2] + "/" + digits,
		"c/" + digits[:2] + "/" + digits[:2] + "/" + digits, "c/" + digits[2:4] + "/" + digits, "c/zz/" + digits,
		"c/" + strings.ToUpper(digits[:2]) + "x/" + digits, "c/" + digits[:2] + "/" + strings.ToUpper(digits), strings.ToUpper(p),
		"C" + p[1:], "t" + p[1:], "cc" + p[1:], "c\\" + p[2:], aheadOf(name), "c/" + digits[:2] + "\\" + digits,
		p + "/", p + "0", p + "00", p + "/x", p[:len(p)-1], p[:len(p)-2], p[:len(p)-1] + "g", p[:len(p)-1] + "/", p[:len(p)-1] + "\xff",
		"c/" + digits[:2] + "/" + digits[:31] + "/" + digits[32:], "c/" + digits[:2] + "/" + strings.Repeat("z", 64),
		"c/zz/" + "zz" + digits[2:], " " + p, p + " ",
	}
	upper := nameOf([]byte("abc")) // ba78..
	bad = append(bad, "c/BA/"+digitsOf(upper), "c/ba/BA"+digitsOf(upper)[2:], "c/BA/BA"+digitsOf(upper)[2:])
	d := newDisk(t, 5000)
	for _, x := range bad {
		write(t, d, x, frame.Seal([]byte{0, 'a'}))
		listed(t, "with "+strconv.Quote(x), d)
	}
	write(t, d, p, nil)
	listed(t, "with one", d, name)
}

// P13.3: Missing.

func TestMissing(t *testing.T) {
	d := newDisk(t, 5000)
	var good, bad, none, ahead []api.Digest
	for i := range 5 {
		good = append(good, put(t, d, []byte{byte(i)}))
		bad = append(bad, nameOf([]byte{byte(i), 1}))
		none = append(none, nameOf([]byte{byte(i), 2}))
		ahead = append(ahead, nameOf([]byte{byte(i), 3}))
		write(t, d, placeOf(bad[i]), []byte("junk"))
		write(t, d, aheadOf(ahead[i]), frame.Seal([]byte{byte(i), 3}))
	}
	missing := func(want []api.Digest, names ...api.Digest) {
		t.Helper()
		if l := store.Missing(d, names...); !slices.Equal(l, want) {
			t.Errorf("Missing has %d names, want %d", len(l), len(want))
		}
	}
	missing(nil)
	missing(nil, good...)
	missing(bad, bad...)
	missing(none, none...)
	missing(ahead, ahead...)
	missing([]api.Digest{none[3], bad[1], none[3], none[0], bad[1]}, none[3], good[0], bad[1], good[0], none[3], none[0], good[4], bad[1])
	c := &chance{2}
	all := slices.Concat(good, bad, none, ahead)
	for range 200 {
		var names, want []api.Digest
		for range c.below(30) {
			x := all[c.below(len(all))]
			names = append(names, x)
			if !slices.Contains(good, x) {
				want = append(want, x)
			}
		}
		missing(want, names...)
	}
	d.Power(0)
	missing([]api.Digest{good[1], none[1], good[1]}, good[1], none[1], good[1])
}

// P13.3: Clean.

func TestClean(t *testing.T) {
	others := []string{"c/", "s", "t", "T/", "tt/", "u/", " t/", "/t/", "t0", "a/t/", "t.", "t\\x", placeOf(nameOf(nil))}
	left := []string{"t/", "t//", "t/z", "t/a/b", "t/\xff", "t/t/", aheadOf(nameOf(nil)), aheadOf(nameOf([]byte("x")))}
	for n := range len(left) + 1 {
		d := newDisk(t, 5000)
		var want []file
		for _, p := range others {
			write(t, d, p, []byte(p))
			want = append(want, file{p, p})
		}
		for _, p := range left[:n] {
			write(t, d, p, []byte(p))
		}
		if e := store.Clean(d); e != api.OK {
			t.Error(n, e)
		}
		is(t, strconv.Itoa(n)+" left", d, want...)
		if n == 0 && d.Waits() != len(others) || n > 0 && d.Waits() != 0 {
			t.Errorf("%d left: %d changes wait", n, d.Waits())
		}
		d.Restart(nil)
		if n == 0 { // where there was none, there was no Sync
			want = nil
		}
		is(t, strconv.Itoa(n)+" left, behind a restart", d, want...)
	}
}

func TestCleanOfWhatIsSeen(t *testing.T) {
	d := newDisk(t, 5000)
	write(t, d, "t/a", []byte("1"))
	sync(t, d)
	if e := d.Rename("t/a", "x"); e != api.OK {
		t.Fatal(e)
	}
	d.Power(1)
	if e := store.Clean(d); e != api.OK || d.Waits() != 1 || !d.Up() {
		t.Error("nothing to clean:", e)
	}
	d.Restart(nil)
	is(t, "renamed back", d, file{"t/a", "1"})
	d.Power(2)
	if e := store.Clean(d); e != api.OK || d.Up() {
		t.Error("one to clean:", e)
	}
	d.Restart(nil)
	is(t, "clean", d)
}

func TestCleanWithPowerForSome(t *testing.T) {
	left := []string{"t/", "t/1", "t/10", "t/2", "t/Z", "t/a"} // by their names
	for n := range len(left) + 1 {
		for power := range n + 3 {
			where := strconv.Itoa(n) + " left, " + strconv.Itoa(power) + " calls"
			d := newDisk(t, 5000)
			for _, p := range slices.Backward(left[:n]) {
				write(t, d, p, []byte("x"))
			}
			write(t, d, "y", []byte("z"))
			sync(t, d)
			d.Power(power)
			want, removed := api.OK, n
			if n > 0 && power < n+1 {
				want, removed = api.ErrDown, min(power, n)
			}
			if e := store.Clean(d); e != want {
				t.Errorf("%s: Clean = %v, want %v", where, e, want)
			}
			if l := d.List("t/"); !slices.Equal(l, left[removed:n]) {
				t.Errorf("%s: %q are left", where, l)
			}
			if want == api.OK && d.Waits() != 0 || want != api.OK && d.Waits() != removed {
				t.Errorf("%s: %d changes wait", where, d.Waits())
			}
			if spent := n > 0 && power <= n+1 || power == 0; d.Up() == spent {
				t.Errorf("%s: up %v", where, d.Up())
			}
			d.Restart(nil)
			if l := d.List("t/"); want == api.OK && len(l) != 0 || want != api.OK && len(l) != n {
				t.Errorf("%s: %q are left behind a restart", where, l)
			}
			if e := store.Clean(d); e != api.OK {
				t.Error(where, e)
			}
			is(t, where, d, file{"y", "z"})
		}
	}
}

func TestCleanGivesRoomBack(t *testing.T) {
	b := (&chance{4}).bytes(100)
	d := newDisk(t, 120)
	d.Power(2)
	refusedPut(t, "crash", d, b, api.ErrDown)
	d.Restart(nil)
	refusedPut(t, "no room", d, (&chance{5}).bytes(100), api.ErrFull)
	if e := store.Clean(d); e != api.OK {
		t.Fatal(e)
	}
	put(t, d, (&chance{5}).bytes(100))
}

// What only asks changes nothing, and spends nothing.
func TestAskingChangesNothing(t *testing.T) {
	d := newDisk(t, 5000)
	a := put(t, d, []byte("a"))
	bad := nameOf([]byte("bad"))
	write(t, d, placeOf(bad), []byte("junk"))
	write(t, d, aheadOf(a), []byte("left"))
	before := seen(t, d)
	d.Power(1)
	for range 5 {
		store.Place(a)
		store.Get(d, a)
		store.Get(d, bad)
		store.Get(d, api.Digest{})
		store.Has(d, a)
		store.Has(d, bad)
		store.List(d)
		store.Missing(d, a, bad)
	}
	if d.Waits() != 2 || !d.Up() {
		t.Error(d.Waits(), "changes wait")
	}
	is(t, "asked", d, before...)
}

// P13.4.

// Whatever calls of a Put are done, and whatever a restart leaves: what was put ahead is got, the new one is there whole
// or not at all, and it can be put again.
func TestEachCrashOfAPut(t *testing.T) {
	olds := [][]byte{[]byte("h"), []byte("hello"), bytes.Repeat([]byte("ab"), 600)}
	for _, b := range [][]byte{{}, []byte("x"), bytes.Repeat([]byte("hello"), 9), (&chance{6}).bytes(300)} {
		name := nameOf(b)
		for _, junk := range []string{"", "place", "ahead", "both"} {
			for power := range 5 {
				for _, keep := range allBits(6) {
					d := newDisk(t, api.MaxDisk)
					for _, o := range olds {
						put(t, d, o)
					}
					if junk == "place" || junk == "both" {
						write(t, d, placeOf(name), []byte("junk"))
					}
					if junk == "ahead" || junk == "both" {
						write(t, d, aheadOf(name), []byte("junk"))
					}
					sync(t, d)
					d.Power(power)
					_, e := store.Put(d, b)
					if (e == api.OK) != (power == 4) || d.Up() {
						t.Fatalf("power %d: Put = %v, up %v: it is four calls", power, e, d.Up())
					}
					d.Restart(keep)
					for _, o := range olds {
						gets(t, "old", d, nameOf(o), o, api.OK)
					}
					got, e2 := store.Get(d, name)
					if e2 == api.OK && !bytes.Equal(got, b) || e == api.OK && e2 != api.OK {
						t.Fatalf("power %d, bits %v: Put %v, Get %q, %v", power, keep, e, got, e2)
					}
					put(t, d, b)
					d.Restart(nil)
					gets(t, "put again", d, name, b, api.OK)
				}
			}
		}
	}
}

// steps does a Put by the words of the chapter, on a disk of the test's own.
func steps(d *disk.Disk, b []byte) (api.Digest, api.Errno) {
	if len(b) > 4096 {
		return api.Digest{}, api.ErrRange
	}
	name := nameOf(b)
	if got, e := opened(d, name); e == api.OK && bytes.Equal(got, b) {
		return name, api.OK
	}
	if !d.Up() {
		return api.Digest{}, api.ErrDown
	}
	if e := d.Write(aheadOf(name), frame.Seal(b)); e != api.OK {
		return api.Digest{}, e
	}
	if e := d.Sync(); e != api.OK {
		return api.Digest{}, e
	}
	if e := d.Rename(aheadOf(name), placeOf(name)); e != api.OK {
		return api.Digest{}, e
	}
	if e := d.Sync(); e != api.OK {
		return api.Digest{}, e
	}
	return name, api.OK
}

func opened(d *disk.Disk, name api.Digest) ([]byte, api.Errno) {
	f, e := d.Read(placeOf(name))
	if e != api.OK {
		return nil, e
	}
	b, e := frame.Open(f, 4096)
	if e != api.OK || nameOf(b) != name {
		return nil, api.ErrSum
	}
	return b, api.OK
}

func swept(d *disk.Disk) api.Errno {
	l := d.List("t/")
	for _, p := range l {
		if e := d.Remove(p); e != api.OK {
			return e
		}
	}
	if len(l) > 0 {
		return d.Sync()
	}
	return api.OK
}

// same holds all that two disks tell against each other.
func same(t *testing.T, where string, a, b *disk.Disk) {
	t.Helper()
	if !slices.Equal(a.List(""), b.List("")) || a.Used() != b.Used() || a.Waits() != b.Waits() || a.Up() != b.Up() {
		t.Fatalf("%s: files %q, want %q; %d wait, want %d", where, a.List(""), b.List(""), a.Waits(), b.Waits())
	}
	if a.Up() && !slices.Equal(seen(t, a), seen(t, b)) {
		t.Fatalf("%s: there is %s, want %s", where, show(seen(t, a)), show(seen(t, b)))
	}
}

// A script's step is done on a disk by the store, and on another one by the words.
func doStep(t *testing.T, c *chance, where string, d, w *disk.Disk, chunks [][]byte) {
	t.Helper()
	b := chunks[c.below(len(chunks))]
	name := nameOf(b)
	switch c.below(10) {
	case 0, 1, 2, 3:
		x, e := store.Put(d, b)
		y, f := steps(w, b)
		if x != y || e != f {
			t.Fatalf("%s: Put = %v, want %v", where, e, f)
		}
	case 4, 5:
		n := c.below(7)
		d.Power(n)
		w.Power(n)
	case 6:
		keep := c.bits()
		d.Restart(keep)
		w.Restart(keep)
	case 7:
		if e, f := store.Clean(d), swept(w); e != f {
			t.Fatalf("%s: Clean = %v, want %v", where, e, f)
		}
	case 8:
		p := []string{placeOf(name), aheadOf(name), "t/x", "c/x"}[c.below(4)]
		junk := c.bytes(c.below(20))
		d.Write(p, junk)
		w.Write(p, junk)
	case 9:
		d.Remove(placeOf(name))
		w.Remove(placeOf(name))
	}
}

func TestLongScripts(t *testing.T) {
	for run := range 150 {
		c := &chance{uint64(run)}
		chunks := [][]byte{nil, []byte("a"), []byte("hello"), bytes.Repeat([]byte("ab"), 30), c.bytes(50), c.bytes(200), make([]byte, 500), make([]byte, 4097)}
		room := []int{20, 100, 300, 5000}[run%4]
		d, w := newDisk(t, room), newDisk(t, room)
		for i := range 120 {
			where := "script " + strconv.Itoa(run) + ", step " + strconv.Itoa(i)
			doStep(t, c, where, d, w, chunks)
			same(t, where, d, w)
			var there, missing, names []api.Digest
			for _, b := range chunks {
				name := nameOf(b)
				want, wantErr := opened(w, name)
				gets(t, where, d, name, want, wantErr)
				names = append(names, name)
				if wantErr != api.OK {
					missing = append(missing, name)
				}
				if slices.Contains(w.List(""), placeOf(name)) {
					there = append(there, name)
				}
			}
			listed(t, where, d, there...)
			if l := store.Missing(d, names...); !slices.Equal(l, missing) {
				t.Errorf("%s: Missing", where)
			}
		}
	}
}

// What was put is got, for good, while nobody but the store changes the disk, and what is down is started again; whatever
// Get tells is of its name.
func TestWhatWasPutIsGot(t *testing.T) {
	for run := range 90 {
		c := &chance{uint64(run) + 1000}
		var chunks [][]byte
		for range 12 {
			chunks = append(chunks, c.bytes(c.below(40)), bytes.Repeat(c.bytes(3), c.below(200)))
		}
		d := newDisk(t, []int{400, 1000, 20000}[run%3])
		wasPut := map[api.Digest][]byte{}
		for i := range 80 {
			where := "script " + strconv.Itoa(run) + ", step " + strconv.Itoa(i)
			if c.below(3) == 0 {
				d.Power(c.below(6))
			}
			b := chunks[c.below(len(chunks))]
			if name, e := store.Put(d, b); e == api.OK {
				wasPut[name] = b
			}
			if c.below(4) == 0 {
				store.Clean(d)
			}
			if !d.Up() || c.below(5) == 0 {
				d.Restart(c.bits())
			}
			for name, b := range wasPut {
				gets(t, where, d, name, b, api.OK)
			}
			for _, b := range chunks {
				if got, e := store.Get(d, nameOf(b)); e == api.OK && !bytes.Equal(got, b) {
					t.Fatalf("%s: Get = %q, want %q", where, got, b)
				}
			}
		}
	}
}

// R4: what is handed in is not changed and not kept; what is answered is new memory.

func TestWhatIsHandedInIsNotKept(t *testing.T) {
	d := newDisk(t, 50000)
	for _, n := range []int{0, 1, 5, 100, 4096} {
		array := (&chance{uint64(n)}).bytes(n + 40)
		whole := slices.Clone(array)
		name := put(t, d, array[20:20+n])
		if !bytes.Equal(array, whole) {
			t.Error(n, "what was handed in is changed, or what stands beside it")
		}
		for i := range array {
			array[i]++
		}
		gets(t, "changed behind", d, name, whole[20:20+n], api.OK)
	}
	names := []api.Digest{{1}, {2}, {3}, {4}}
	whole := slices.Clone(names)
	store.Missing(d, names[:2]...)
	if !slices.Equal(names, whole) {
		t.Error("names are changed")
	}
}

func TestAnswersAreNewMemory(t *testing.T) {
	d := newDisk(t, 50000)
	b := []byte("hello, hello, hello, hello")
	name := put(t, d, b)
	got, _ := store.Get(d, name)
	for i := range got[:cap(got)] {
		got[:cap(got)][i] = 'x'
	}
	gets(t, "changed", d, name, b, api.OK)

	raw := (&chance{8}).bytes(40) // kept as it is
	name = put(t, d, raw)
	got, _ = store.Get(d, name)
	clear(got[:cap(got)])
	gets(t, "changed", d, name, raw, api.OK)

	l := store.List(d)
	clear(l[:cap(l)])
	listed(t, "changed", d, nameOf(b), nameOf(raw))

	names := []api.Digest{{1}, {2}}
	l = store.Missing(d, names...)
	clear(l[:cap(l)])
	if !slices.Equal(names, []api.Digest{{1}, {2}}) {
		t.Error("Missing answers what was handed in")
	}
}

// R5: nothing but the disk is asked: what one store was told another one does not know.
func TestStoresAreApart(t *testing.T) {
	a, b := newDisk(t, 500), newDisk(t, 500)
	name := put(t, a, []byte("a"))
	gets(t, "the other one", b, name, nil, api.ErrNone)
	listed(t, "the other one", b)
	put(t, b, []byte("b"))
	listed(t, "the first one", a, name)
	if e := a.Remove(placeOf(name)); e != api.OK {
		t.Fatal(e)
	}
	gets(t, "removed", a, name, nil, api.ErrNone)
	put(t, a, []byte("a"))
	gets(t, "put again", a, name, []byte("a"), api.OK)
}

func TestRowDoesNotMatter(t *testing.T) {
	chunks := someChunks()
	a, b := newDisk(t, api.MaxDisk), newDisk(t, api.MaxDisk)
	for i := range chunks {
		put(t, a, chunks[i])
		put(t, b, chunks[len(chunks)-1-i])
	}
	same(t, "turned round", a, b)
	if !slices.Equal(store.List(a), store.List(b)) {
		t.Error("Lists are others")
	}
}

// The digests of the tests are those of the program.
func TestNamesAreDigests(t *testing.T) {
	for i, b := range someChunks() {
		if sha.Sum(b) != nameOf(b) {
			t.Error(i)
		}
	}
}
