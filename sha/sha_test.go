package sha_test

import (
	"bytes"
	"crypto/sha256"
	"fmt"
	"strings"
	"testing"

	"lighterage/api"
	"lighterage/sha"
)

// ref is a digest that another hand has made.
func ref(b []byte) api.Digest { return api.Digest(sha256.Sum256(b)) }

// sample is n bytes, of which a piece is like no other.
func sample(n int) []byte {
	b := make([]byte, n)
	x := uint32(n) + 1
	for i := range b {
		x = x*1664525 + 1013904223
		b[i] = byte(x >> 24)
	}
	return b
}

// edges are sizes on both sides of where the closing bytes need a further block, and of where a block is full.
func edges() []int {
	var l []int
	for _, n := range []int{0, 64, 128, 192, 4096} {
		for _, d := range []int{-9, -8, -1, 0, 1, 55, 56, 57} {
			if n+d >= 0 {
				l = append(l, n+d)
			}
		}
	}
	return l
}

// P2.1: Sum.

func TestSumOfKnownTexts(t *testing.T) {
	for _, x := range []struct{ text, want string }{
		{"", "e3b0c44298fc1c149afbf4c8996fb92427ae41e4649b934ca495991b7852b855"},
		{"abc", "ba7816bf8f01cfea414140de5dae2223b00361a396177a9cb410ff61f20015ad"},
		{"abcdbcdecdefdefgefghfghighijhijkijkljklmklmnlmnomnopnopq", "248d6a61d20638b8e5c026930c3e6039a33ce45964ff2167f6ecedd419db06c1"},
		{strings.Repeat("a", 1000000), "cdc76e5c9914fb9281a1c7e284d73e67f1809a48a497200e046d39ccc7112cd0"},
	} {
		if got := fmt.Sprintf("%x", sha.Sum([]byte(x.text))); got != x.want {
			t.Errorf("of %d bytes: %s, want %s", len(x.text), got, x.want)
		}
	}
}

func TestSumOfNothing(t *testing.T) {
	if sha.Sum(nil) != sha.Sum([]byte{}) || sha.Sum(nil) != ref(nil) {
		t.Error("nil and empty bytes are one")
	}
}

func TestSumOfEachSize(t *testing.T) {
	for n := range 400 {
		if b := sample(n); sha.Sum(b) != ref(b) {
			t.Errorf("of %d bytes", n)
		}
	}
	for _, n := range edges() {
		if b := sample(n); sha.Sum(b) != ref(b) {
			t.Errorf("of %d bytes", n)
		}
	}
}

func TestSumOfBytesAtTheirEnds(t *testing.T) {
	for _, c := range []byte{0, 1, 127, 128, 255} {
		for _, n := range edges() {
			if b := bytes.Repeat([]byte{c}, n); sha.Sum(b) != ref(b) {
				t.Errorf("of %d bytes %d", n, c)
			}
		}
	}
}

func TestSumHangsOnEachBit(t *testing.T) {
	b := sample(130)
	first := sha.Sum(b)
	for i := range 8 * len(b) {
		b[i/8] ^= 1 << (i % 8)
		if got := sha.Sum(b); got == first || got != ref(b) {
			t.Errorf("bit %d", i)
		}
		b[i/8] ^= 1 << (i % 8)
	}
}

// P2.2: New, Write, Sum, Len, Clone.

func TestNewIsWithoutBytes(t *testing.T) {
	s := sha.New()
	if s.Len() != 0 || s.Sum() != ref(nil) {
		t.Error("a new state has bytes")
	}
	s.Write([]byte("abc"))
	if o := sha.New(); o.Len() != 0 || o.Sum() != ref(nil) {
		t.Error("a new state has another one's bytes")
	}
}

func TestWriteOfNothing(t *testing.T) {
	for _, n := range edges() {
		b := sample(n)
		s := sha.New()
		s.Write(nil)
		s.Write(b)
		s.Write([]byte{})
		s.Write(nil)
		if s.Len() != n || s.Sum() != ref(b) {
			t.Errorf("behind %d bytes", n)
		}
	}
}

func TestSumChangesNothing(t *testing.T) {
	for _, n := range edges() {
		b := sample(n)
		s := sha.New()
		s.Write(b)
		for range 3 {
			if s.Sum() != ref(b) || s.Len() != n {
				t.Fatalf("asked again at %d bytes", n)
			}
		}
		s.Write([]byte("abc"))
		if s.Sum() != ref(append(b, "abc"...)) || s.Len() != n+3 {
			t.Errorf("written on at %d bytes", n)
		}
	}
}

func TestSumAndLenBehindEachByte(t *testing.T) {
	b := sample(300)
	s := sha.New()
	for i := range b {
		if s.Len() != i || s.Sum() != ref(b[:i]) {
			t.Fatalf("behind %d bytes", i)
		}
		s.Write(b[i : i+1])
	}
}

func TestCloneIsAStateOfItsOwn(t *testing.T) {
	for _, n := range edges() {
		b := sample(n)
		s := sha.New()
		s.Write(b)
		c := s.Clone()
		if c == s || c.Len() != n || c.Sum() != ref(b) {
			t.Fatalf("a clone of %d bytes", n)
		}
		more := sample(70)
		c.Write(more)
		if s.Len() != n || s.Sum() != ref(b) {
			t.Errorf("the first is changed by its clone, at %d bytes", n)
		}
		s.Write([]byte("x"))
		if c.Len() != n+70 || c.Sum() != ref(append(bytes.Clone(b), more...)) {
			t.Errorf("the clone is changed by the first, at %d bytes", n)
		}
		if s.Len() != n+1 || s.Sum() != ref(append(bytes.Clone(b), 'x')) {
			t.Errorf("the first goes on, at %d bytes", n)
		}
	}
}

func TestBytesAreNeitherChangedNorKept(t *testing.T) {
	for _, n := range edges() {
		room := sample(n + 80)
		was := bytes.Clone(room)
		s := sha.New()
		s.Write(room[:n])
		d := sha.Sum(room[:n])
		if s.Sum() != d || !bytes.Equal(room, was) {
			t.Fatalf("%d bytes, or the room behind them, are changed", n)
		}
		clear(room)
		if s.Sum() != d || s.Len() != n {
			t.Errorf("%d bytes are kept", n)
		}
	}
}

// 2^29 bytes are 2^32 bits: their number needs more than four of the eight bytes at the end.
func TestSumOfManyBytes(t *testing.T) {
	if testing.Short() {
		t.Skip("takes seconds")
	}
	b := sample(1 << 20)
	s, o := sha.New(), sha256.New()
	for range 1<<9 + 1 {
		s.Write(b)
		o.Write(b)
	}
	if s.Len() != 1<<29+1<<20 || s.Sum() != api.Digest(o.Sum(nil)) {
		t.Error("of more than 2^29 bytes")
	}
}

// P2.3: in whatever pieces.

func TestPiecesOfOneSize(t *testing.T) {
	b := sample(700)
	for size := 1; size <= len(b); size++ {
		s := sha.New()
		for rest := b; len(rest) > 0; {
			n := min(size, len(rest))
			s.Write(rest[:n])
			rest = rest[n:]
		}
		if s.Sum() != ref(b) || s.Len() != len(b) {
			t.Errorf("in pieces of %d bytes", size)
		}
	}
}

func TestTwoPieces(t *testing.T) {
	for _, n := range edges() {
		if n > 256 {
			continue
		}
		b := sample(n)
		for i := range n + 1 {
			s := sha.New()
			s.Write(b[:i])
			s.Write(b[i:])
			if s.Sum() != sha.Sum(b) {
				t.Errorf("%d bytes in two pieces at %d", n, i)
			}
		}
	}
}

func TestPiecesOfManySizes(t *testing.T) {
	for round := range 50 {
		b := sample(1000 + round)
		s := sha.New()
		for i, rest := 0, b; len(rest) > 0; i++ {
			n := min(int(b[i])%130, len(rest)) // pieces of no bytes among them
			s.Write(rest[:n])
			rest = rest[n:]
		}
		if s.Sum() != ref(b) || s.Len() != len(b) {
			t.Errorf("round %d", round)
		}
	}
}
