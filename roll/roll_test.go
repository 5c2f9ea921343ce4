package roll_test

import (
	"bytes"
	"slices"
	"sync"
	"testing"

	"lighterage/api"
	"lighterage/roll"
)

// wordByTheWords is a byte's word as the chapter tells it, made from the first one on each time.
func wordByTheWords(c byte) uint32 {
	x := uint32(0x9E3779B9)
	for range int(c) + 1 {
		x ^= x << 13
		x ^= x >> 17
		x ^= x << 5
	}
	return x
}

// turned is x turned round to the left, a bit at a time.
func turned(x uint32, n int) uint32 {
	for range n {
		top := x >> 31
		x = x<<1 | top
	}
	return x
}

// hashByTheWords is a hash as the chapter tells it, from the last byte on.
func hashByTheWords(b []byte) uint32 {
	h := uint32(0)
	for behind := range min(len(b), 16) {
		h ^= turned(wordByTheWords(b[len(b)-1-behind]), behind)
	}
	return h
}

// sample is n bytes, of which a piece is like no other.
func sample(n int) []byte {
	b := make([]byte, n)
	x := uint32(n) + 1
	for i := range b {
		x = x*1664525 + 1013904223
		b[i] = byte(x >> 24)
	}
	return b
}

// rollOf is a roll to which b was added.
func rollOf(b []byte) *roll.Roll {
	r := roll.New()
	for _, c := range b {
		r.Add(c)
	}
	return r
}

// P4.1: Word.

// Words are made when the first one is asked for: whoever asks, at whatever time, finds all of them.
// (It stands first, so that none is made yet.)
func TestWordsAskedByManyAtOnce(t *testing.T) {
	var got [8][256]uint32
	var all sync.WaitGroup
	for i := range got {
		all.Go(func() {
			for c := range 256 {
				got[i][c] = roll.Word(byte(c + 32*i))
			}
		})
	}
	all.Wait()
	for i := range got {
		for c, x := range got[i] {
			if want := wordByTheWords(byte(c + 32*i)); x != want {
				t.Errorf("asker %d: the word of %d is %#x, want %#x", i, byte(c+32*i), x, want)
			}
		}
	}
}

func TestWordOfKnownBytes(t *testing.T) {
	for _, x := range []struct {
		c    byte
		want uint32
	}{
		{0, 0x510c4619},
		{1, 0xe02e553e},
		{'a', 0xcee2330c},
		{'b', 0x98fd1eed},
		{127, 0xbed11ec1},
		{128, 0x3c2778e5},
		{254, 0x067e7a6a},
		{255, 0xef588093},
	} {
		if got := roll.Word(x.c); got != x.want {
			t.Errorf("Word(%d) = %#x, want %#x", x.c, got, x.want)
		}
	}
}

func TestWordOfEachByte(t *testing.T) {
	for range 2 { // what was asked for once is not changed by it
		for c := 255; c >= 0; c-- {
			if got, want := roll.Word(byte(c)), wordByTheWords(byte(c)); got != want {
				t.Errorf("Word(%d) = %#x, want %#x", c, got, want)
			}
		}
	}
}

// P4.1: Hash.

// known are hashes that another hand has made.
func known() map[string]uint32 {
	return map[string]uint32{
		"":                                    0,
		"a":                                   0xcee2330c,
		"ab":                                  0x053978f4,
		"ba":                                  0xff180ed7,
		"abc":                                 0x55463d35,
		"\x00":                                0x510c4619,
		"\x00\x00":                            0xf314ca2b,
		"123456789":                           0xad405ff8,
		"0123456789abcde":                     0xcf94e1ac,
		"0123456789abcdef":                    0xb7402be4,
		"0123456789abcdefg":                   0xfded28ee,
		"x0123456789abcdef":                   0xb7402be4,
		string(make([]byte, 16)):              0xf2f30d0c,
		string(make([]byte, 40)):              0xf2f30d0c,
		string(bytes.Repeat([]byte{255}, 16)): 0x2546dab9,
		"the quick brown fox jumps over the lazy dog": 0x6730078b,
	}
}

func TestHashOfKnownBytes(t *testing.T) {
	for s, want := range known() {
		if got := roll.Hash([]byte(s)); got != want {
			t.Errorf("Hash(%q) = %#x, want %#x", s, got, want)
		}
	}
	if got := roll.Hash(nil); got != 0 {
		t.Errorf("Hash(nil) = %#x", got)
	}
}

func TestHashOfOneByteIsItsWord(t *testing.T) {
	for c := range 256 {
		if got := roll.Hash([]byte{byte(c)}); got != roll.Word(byte(c)) {
			t.Errorf("Hash of %d: %#x, want %#x", c, got, roll.Word(byte(c)))
		}
	}
}

func TestHashOfEachSize(t *testing.T) {
	for n := range 200 {
		for _, b := range [][]byte{sample(n), make([]byte, n), bytes.Repeat([]byte{255}, n), bytes.Repeat([]byte("ab"), n)} {
			if got, want := roll.Hash(b), hashByTheWords(b); got != want {
				t.Errorf("Hash(%v) = %#x, want %#x", b, got, want)
			}
		}
	}
	for _, n := range []int{4095, 4096, 65536, 1 << 20} {
		if b := sample(n); roll.Hash(b) != hashByTheWords(b) {
			t.Errorf("of %d bytes", n)
		}
	}
}

func TestHashLeavesItsArgumentAndItsRoom(t *testing.T) {
	for n := range 33 {
		room := sample(40)
		was := bytes.Clone(room)
		got := roll.Hash(room[:n])
		if !bytes.Equal(room, was) {
			t.Errorf("%d bytes, or the room behind them, are changed: %v", n, room)
		}
		if want := hashByTheWords(was[:n:n]); got != want {
			t.Errorf("%d bytes with room behind them: %#x, want %#x", n, got, want)
		}
	}
}

// P4.2.

func TestNewIsWithoutBytes(t *testing.T) {
	r := roll.New()
	if r == nil {
		t.Fatal("there is none")
	}
	if got := r.Sum(); got != 0 {
		t.Errorf("Sum() = %#x", got)
	}
}

func TestAddOfKnownBytes(t *testing.T) {
	for s, want := range known() {
		if got := rollOf([]byte(s)).Sum(); got != want {
			t.Errorf("of %q: %#x, want %#x", s, got, want)
		}
	}
}

func TestFirstAddIsTheWord(t *testing.T) {
	for c := range 256 {
		if got := roll.New().Add(byte(c)); got != roll.Word(byte(c)) {
			t.Errorf("Add(%d) = %#x, want %#x", c, got, roll.Word(byte(c)))
		}
	}
}

func TestAddAndSumOfEachByteBehind(t *testing.T) {
	for _, b := range [][]byte{sample(5000), make([]byte, 100), bytes.Repeat([]byte{255}, 100), bytes.Repeat([]byte("abc"), 100), bytes.Repeat(sample(16), 5), bytes.Repeat(sample(17), 5)} {
		r := roll.New()
		for i, c := range b {
			want := hashByTheWords(b[:i+1])
			if got := r.Add(c); got != want {
				t.Errorf("%d bytes: Add(%d) = %#x, want %#x", i+1, c, got, want)
			}
			if first, second := r.Sum(), r.Sum(); first != want || second != want {
				t.Errorf("%d bytes: Sum() = %#x, and again %#x, want %#x", i+1, first, second, want)
			}
		}
	}
}

func TestAddOfManyBytes(t *testing.T) {
	b := sample(1 << 20)
	if got, want := rollOf(b).Sum(), hashByTheWords(b); got != want {
		t.Errorf("%#x, want %#x", got, want)
	}
}

func TestResetIsWithoutBytes(t *testing.T) {
	for n := range 50 {
		r := rollOf(sample(n))
		for range 2 { // and if it is without bytes already
			r.Reset()
			if got := r.Sum(); got != 0 {
				t.Errorf("behind %d bytes: Sum() = %#x", n, got)
			}
		}
		b := sample(40)
		for i, c := range b {
			if got, want := r.Add(c), hashByTheWords(b[:i+1]); got != want {
				t.Errorf("behind %d bytes, and %d since: %#x, want %#x", n, i+1, got, want)
			}
		}
	}
}

func TestRollsAreApart(t *testing.T) {
	a, b := roll.New(), roll.New()
	x, y := sample(60), sample(61)
	for i := range x {
		a.Add(x[i])
		b.Add(y[i])
		if a.Sum() != hashByTheWords(x[:i+1]) || b.Sum() != hashByTheWords(y[:i+1]) {
			t.Errorf("two with %d bytes each: %#x, %#x", i+1, a.Sum(), b.Sum())
		}
	}
	a.Reset()
	if a.Sum() != 0 || b.Sum() != hashByTheWords(y[:60]) {
		t.Errorf("one without bytes: %#x, the other %#x", a.Sum(), b.Sum())
	}
}

// P4.3.

func TestHashHangsOnTheLastBytesAlone(t *testing.T) {
	last := sample(api.Window)
	want := roll.Hash(last)
	for n := range 70 {
		for _, ahead := range [][]byte{sample(n), make([]byte, n), bytes.Repeat([]byte{255}, n), bytes.Repeat(last, n)} {
			all := slices.Concat(ahead, last)
			if got := roll.Hash(all); got != want {
				t.Errorf("Hash, behind %v: %#x, want %#x", ahead, got, want)
			}
			if got := rollOf(all).Sum(); got != want {
				t.Errorf("Sum, behind %v: %#x, want %#x", ahead, got, want)
			}
		}
	}
}

// All words are different, so that one other byte among the last makes another hash.
func TestHashHangsOnEachOfTheLastBytes(t *testing.T) {
	for _, n := range []int{1, 2, 15, 16, 17, 40} {
		b := sample(n)
		was := roll.Hash(b)
		for i := range b {
			other := bytes.Clone(b)
			counts := n-i <= api.Window
			for d := 1; d < 256; d++ {
				other[i] = b[i] ^ byte(d)
				if changed := roll.Hash(other) != was; changed != counts {
					t.Errorf("Hash: byte %d of %d is %d instead of %d: changed %v, want %v", i, n, other[i], b[i], changed, counts)
				}
				if changed := rollOf(other).Sum() != was; changed != counts {
					t.Errorf("Sum: byte %d of %d is %d instead of %d: changed %v, want %v", i, n, other[i], b[i], changed, counts)
				}
			}
		}
	}
}
