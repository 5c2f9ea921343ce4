package crc_test

import (
	"bytes"
	"hash/crc32"
	"math"
	"slices"
	"testing"

	"lighterage/api"
	"lighterage/crc"
)

var table = crc32.MakeTable(crc32.Castagnoli)

// ref is a check that another hand has made.
func ref(b []byte) uint32 { return crc32.Checksum(b, table) }

// byTheWords is a check as the chapter's words tell it, of bytes behind others whose check is sum.
func byTheWords(sum uint32, b []byte) uint32 {
	x := sum ^ 0xFFFFFFFF
	for _, c := range b {
		x ^= uint32(c)
		for range 8 {
			odd := x%2 == 1
			x /= 2
			if odd {
				x ^= 0x82F63B78
			}
		}
	}
	return x ^ 0xFFFFFFFF
}

// sample is n bytes, of which a piece is like no other.
func sample(n int) []byte {
	b := make([]byte, n)
	x := uint32(n) + 1
	for i := range b {
		x = x*1664525 + 1013904223
		b[i] = byte(x >> 24)
	}
	return b
}

// numbers are checks whatever bytes they are of: each bit alone, the ends, and some between.
func numbers() []uint32 {
	l := []uint32{0, math.MaxUint32, 7, 0x7FFFFFFF, 0x82F63B78, 0xE3069283, 0xDEADBEEF}
	for i := range 32 {
		l = append(l, 1<<i)
	}
	return l
}

// P3.1: Sum.

func TestSumOfKnownBytes(t *testing.T) {
	rising := make([]byte, 32)
	for i := range rising {
		rising[i] = byte(i)
	}
	falling := bytes.Clone(rising)
	slices.Reverse(falling)
	for _, x := range []struct {
		b    []byte
		want uint32
	}{
		{nil, 0},
		{[]byte{}, 0},
		{[]byte("a"), 0xC1D04330},
		{[]byte("123456789"), 3808858755},
		{make([]byte, 32), 0x8A9136AA},
		{bytes.Repeat([]byte{255}, 32), 0x62A8AB43},
		{rising, 0x46DD794E},
		{falling, 0x113FDB5C},
	} {
		if got := crc.Sum(x.b); got != x.want {
			t.Errorf("Sum(%v) = %d, want %d", x.b, got, x.want)
		}
	}
}

func TestSumOfEachByte(t *testing.T) {
	for i := range 256 {
		for _, b := range [][]byte{{byte(i)}, {0, byte(i)}, {byte(i), 0}, {255, byte(i), byte(i)}} {
			if got := crc.Sum(b); got != ref(b) || got != byTheWords(0, b) {
				t.Errorf("Sum(%v) = %d, want %d", b, got, ref(b))
			}
		}
	}
}

func TestSumOfEachSize(t *testing.T) {
	for n := range 600 {
		if b := sample(n); crc.Sum(b) != ref(b) {
			t.Errorf("of %d bytes", n)
		}
	}
	for _, n := range []int{4095, 4096, 4097, 65536, 1 << 20} {
		if b := sample(n); crc.Sum(b) != ref(b) {
			t.Errorf("of %d bytes", n)
		}
	}
}

// P3.1: More.

func TestMoreOfNothing(t *testing.T) {
	for _, x := range numbers() {
		if crc.More(x, nil) != x || crc.More(x, []byte{}) != x {
			t.Errorf("More(%d, nothing) = %d, %d", x, crc.More(x, nil), crc.More(x, []byte{}))
		}
	}
}

func TestMoreOfEachNumber(t *testing.T) {
	for _, x := range numbers() {
		for _, b := range [][]byte{{0}, {255}, {0, 0, 0, 0}, []byte("abc"), sample(100)} {
			if got := crc.More(x, b); got != crc32.Update(x, table, b) || got != byTheWords(x, b) {
				t.Errorf("More(%d, %v) = %d, want %d", x, b, got, byTheWords(x, b))
			}
		}
	}
}

func TestMoreInTwoPieces(t *testing.T) {
	for _, n := range []int{0, 1, 2, 9, 64, 300} {
		b := sample(n)
		for i := range n + 1 {
			if got := crc.More(crc.Sum(b[:i]), b[i:]); got != ref(b) {
				t.Errorf("%d bytes in two pieces at %d: %d, want %d", n, i, got, ref(b))
			}
		}
	}
}

func TestMoreInPiecesOfOneSize(t *testing.T) {
	b := sample(700)
	for n := 1; n <= len(b); n++ {
		sum := crc.Sum(nil)
		for piece := range slices.Chunk(b, n) {
			sum = crc.More(sum, piece)
		}
		if sum != ref(b) {
			t.Errorf("in pieces of %d bytes", n)
		}
	}
}

// P3.1: Join.

func TestJoinOfTwoPieces(t *testing.T) {
	for _, n := range []int{0, 1, 2, 9, 64, 300} {
		b := sample(n)
		for i := range n + 1 {
			if got := crc.Join(crc.Sum(b[:i]), crc.Sum(b[i:]), n-i); got != ref(b) {
				t.Errorf("%d bytes in two pieces at %d: %d, want %d", n, i, got, ref(b))
			}
		}
	}
}

func TestJoinOfNoBytesBehind(t *testing.T) {
	for _, x := range numbers() {
		if got := crc.Join(x, crc.Sum(nil), 0); got != x {
			t.Errorf("Join(%d, 0, 0) = %d", x, got)
		}
	}
}

func TestJoinOfNoBytesAhead(t *testing.T) {
	for _, n := range []int{0, 1, 5, 4096} {
		b := sample(n)
		if got := crc.Join(crc.Sum(nil), crc.Sum(b), n); got != ref(b) {
			t.Errorf("of none and %d bytes: %d, want %d", n, got, ref(b))
		}
	}
}

func TestJoinOfEachNumber(t *testing.T) {
	for _, n := range []int{1, 2, 3, 4, 5, 7, 8, 15, 16, 17, 31, 32, 33, 1000} {
		b := sample(n)
		for _, x := range numbers() {
			if got := crc.Join(x, crc.Sum(b), n); got != crc.More(x, b) {
				t.Errorf("Join(%d, of %d bytes) = %d, want %d", x, n, got, crc.More(x, b))
			}
		}
	}
}

func TestJoinOfManyBytesBehind(t *testing.T) {
	ahead := []byte("123456789")
	for _, n := range []int{4095, 4096, 65535, 65536, 65537, 1<<19 - 1, 1<<20 - 1, 1 << 20} {
		b := sample(n)
		if got, want := crc.Join(crc.Sum(ahead), crc.Sum(b), n), ref(append(ahead, b...)); got != want {
			t.Errorf("of 9 and %d bytes: %d, want %d", n, got, want)
		}
	}
}

func TestJoinOfThreePieces(t *testing.T) {
	a, b, c := sample(77), sample(128), sample(1001)
	all := slices.Concat(a, b, c)
	first := crc.Join(crc.Join(crc.Sum(a), crc.Sum(b), len(b)), crc.Sum(c), len(c))
	last := crc.Join(crc.Sum(a), crc.Join(crc.Sum(b), crc.Sum(c), len(c)), len(b)+len(c))
	if first != ref(all) || last != ref(all) {
		t.Errorf("%d, %d, want %d", first, last, ref(all))
	}
}

// Nothing is promised of what these answer, but that they do.
func TestJoinEndsWhateverTheNumber(t *testing.T) {
	for _, n := range []int{-1, math.MinInt, 1<<20 + 1, math.MaxInt} {
		crc.Join(1, 2, n)
	}
}

// P3.2: Put.

func TestPutOfKnownBytes(t *testing.T) {
	for _, x := range []struct{ b, want string }{
		{"", "\x00\x00\x00\x00"},
		{"a", "a\x30\x43\xd0\xc1"},
		{"123456789", "123456789\x83\x92\x06\xe3"},
	} {
		if got := crc.Put([]byte(x.b)); string(got) != x.want {
			t.Errorf("Put(%q) = %q, want %q", x.b, got, x.want)
		}
	}
	if got := crc.Put(nil); string(got) != "\x00\x00\x00\x00" {
		t.Errorf("Put(nil) = %q", got)
	}
}

func TestPutOfEachSize(t *testing.T) {
	for n := range 300 {
		b := sample(n)
		s := ref(b)
		want := append(bytes.Clone(b), byte(s), byte(s>>8), byte(s>>16), byte(s>>24))
		if got := crc.Put(b); !bytes.Equal(got, want) {
			t.Errorf("of %d bytes: %v, want %v", n, got, want)
		}
	}
}

func TestPutLeavesItsArgumentAndItsRoom(t *testing.T) {
	for n := range 9 {
		room := sample(16)
		was := bytes.Clone(room)
		got := crc.Put(room[:n])
		if !bytes.Equal(room, was) {
			t.Errorf("%d bytes, or the room behind them, are changed: %v", n, room)
		}
		kept := bytes.Clone(got)
		clear(room)
		if !bytes.Equal(got, kept) {
			t.Errorf("what was put of %d bytes shares memory with them", n)
		}
	}
}

// P3.2: Take.

func TestTakeOfKnownBytes(t *testing.T) {
	for _, x := range []struct {
		b, want string
		e       api.Errno
	}{
		{"\x00\x00\x00\x00", "", api.OK},
		{"a\x30\x43\xd0\xc1", "a", api.OK},
		{"123456789\x83\x92\x06\xe3", "123456789", api.OK},

		{"", "", api.ErrForm},
		{"\x00", "", api.ErrForm},
		{"\x00\x00", "", api.ErrForm},
		{"\x00\x00\x00", "", api.ErrForm},
		{"abc", "", api.ErrForm},

		{"abcd", "", api.ErrSum},
		{"\x00\x00\x00\x01", "", api.ErrSum},
		{"\xff\xff\xff\xff", "", api.ErrSum},
		{"\x00\x00\x00\x00\x00", "", api.ErrSum},
		{"123456789\xe3\x06\x92\x83", "", api.ErrSum},     // the greatest one first
		{"\x83\x92\x06\xe3123456789", "", api.ErrSum},     // ahead
		{"123456789\x83\x92\x06", "", api.ErrSum},         // its last byte is off
		{"23456789\x83\x92\x06\xe3", "", api.ErrSum},      // its first byte is off
		{"123456789\x83\x92\x06\xe3\x00", "", api.ErrSum}, // a byte behind
		{"\x00123456789\x83\x92\x06\xe3", "", api.ErrSum}, // a byte ahead
		{"213456789\x83\x92\x06\xe3", "", api.ErrSum},     // two bytes that are turned round
	} {
		if got, e := crc.Take([]byte(x.b)); string(got) != x.want || e != x.e {
			t.Errorf("Take(%q) = %q, %v, want %q, %v", x.b, got, e, x.want, x.e)
		}
	}
	if got, e := crc.Take(nil); len(got) != 0 || e != api.ErrForm {
		t.Errorf("Take(nil) = %q, %v", got, e)
	}
}

func TestTakeLeavesItsArgumentAndItsRoom(t *testing.T) {
	for n := range 9 {
		room := append(crc.Put(sample(n)), "room"...)
		was := bytes.Clone(room)
		got, e := crc.Take(room[:n+4])
		if e != api.OK {
			t.Fatalf("of %d bytes: %v", n, e)
		}
		_ = append(got, "what is put behind"...)
		if !bytes.Equal(room, was) {
			t.Errorf("%d bytes, or the room behind them, are changed: %v", n, room)
		}
		clear(room)
		if !bytes.Equal(got, sample(n)) {
			t.Errorf("what was taken of %d bytes shares memory with them", n)
		}
	}
}

// What stands in the room behind the bytes is not of them.
func TestTakeDoesNotLookIntoTheRoom(t *testing.T) {
	all := crc.Put([]byte("123456789"))
	for n := range len(all) {
		want := api.ErrSum
		if n < 4 {
			want = api.ErrForm
		}
		if got, e := crc.Take(all[:n]); len(got) != 0 || e != want {
			t.Errorf("of the first %d bytes: %q, %v, want %v", n, got, e, want)
		}
	}
}

// P3.3.

func TestWhatWasPutIsTaken(t *testing.T) {
	for n := range 600 {
		b := sample(n)
		if got, e := crc.Take(crc.Put(b)); e != api.OK || !bytes.Equal(got, b) {
			t.Errorf("of %d bytes: %v, %v", n, got, e)
		}
	}
	for _, n := range []int{4096, 65536, 1 << 20} {
		b := sample(n)
		if got, e := crc.Take(crc.Put(b)); e != api.OK || !bytes.Equal(got, b) {
			t.Errorf("of %d bytes: %v", n, e)
		}
	}
	for _, c := range []byte{0, 255} {
		b := bytes.Repeat([]byte{c}, 50)
		if got, e := crc.Take(crc.Put(crc.Put(b))); e != api.OK || !bytes.Equal(got, crc.Put(b)) {
			t.Errorf("what was put twice, of bytes %d: %v, %v", c, got, e)
		}
	}
}

func TestWhatHasAnotherByteIsNotTaken(t *testing.T) {
	for _, n := range []int{0, 1, 2, 3, 4, 5, 9, 33, 100} {
		all := crc.Put(sample(n))
		for i := range all {
			was := all[i]
			for d := 1; d < 256; d++ {
				all[i] = was ^ byte(d)
				if got, e := crc.Take(all); e != api.ErrSum || len(got) != 0 {
					t.Errorf("of %d bytes, byte %d is %d instead of %d: %v, %v", n, i, all[i], was, got, e)
				}
			}
			all[i] = was
		}
	}
}

func TestWhatHasAnotherByteFarAheadIsNotTaken(t *testing.T) {
	all := crc.Put(sample(65536))
	for _, i := range []int{0, 1, 4095, 4096, 32768, 65535, 65536, 65539} {
		for bit := range 8 {
			all[i] ^= 1 << bit
			if got, e := crc.Take(all); e != api.ErrSum || len(got) != 0 {
				t.Errorf("byte %d, bit %d: %d bytes, %v", i, bit, len(got), e)
			}
			all[i] ^= 1 << bit
		}
	}
}
