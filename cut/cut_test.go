package cut_test

import (
	"bytes"
	"crypto/sha256"
	"fmt"
	"iter"
	"math"
	"slices"
	"testing"

	"lighterage/api"
	"lighterage/cut"
	"lighterage/roll"
)

func params(min, avg, max int) api.Params { return api.Params{Min: min, Avg: avg, Max: max} }

// mayByTheWords goes through the words of the chapter, one by one.
func mayByTheWords(p api.Params) bool {
	switch {
	case p.Min < 1:
		return false
	case p.Avg < p.Min:
		return false
	case p.Max < p.Avg:
		return false
	}
	return p.Max <= 4096
}

// maskByTheWords doubles a power of two while it is not above Avg.
func maskByTheWords(p api.Params) uint32 {
	power := 1
	for power*2 <= p.Avg {
		power *= 2
	}
	return uint32(power - 1)
}

// chunksByTheWords cuts as the chapter tells it: each k is tried from Min on, each hash is one of all first k bytes.
func chunksByTheWords(b []byte, p api.Params) [][]byte {
	var l [][]byte
	for len(b) > 0 {
		k := len(b)
		if len(b) >= p.Min {
			for k = p.Min; k != len(b) && k != p.Max && roll.Hash(b[:k])&maskByTheWords(p) != 0; {
				k++
			}
		}
		l = append(l, b[:k])
		b = b[k:]
	}
	return l
}

// knownByTheWords are the chunks of b that stay, at the same places, whatever byte comes behind, or if none does.
func knownByTheWords(b []byte, p api.Params) [][]byte {
	known := chunksByTheWords(b, p)
	for c := range 256 {
		other := chunksByTheWords(append(slices.Clip(b), byte(c)), p)
		same := 0
		for same < len(known) && bytes.Equal(known[same], other[same]) {
			same++
		}
		known = known[:same]
	}
	return known
}

func sizesOf(chunks [][]byte) []int {
	var l []int
	for _, c := range chunks {
		l = append(l, len(c))
	}
	return l
}

func sameChunks(a, b [][]byte) bool { return slices.EqualFunc(a, b, bytes.Equal) }

// copied are the same chunks in memory of their own.
func copied(chunks [][]byte) [][]byte {
	var l [][]byte
	for _, c := range chunks {
		l = append(l, bytes.Clone(c))
	}
	return l
}

// sample is n bytes, of which a piece is like no other.
func sample(n int) []byte {
	b := make([]byte, n)
	x := uint32(n) + 1
	for i := range b {
		x = x*1664525 + 1013904223
		b[i] = byte(x >> 24)
	}
	return b
}

func numbers(n int) []byte {
	b := make([]byte, n)
	for i := range b {
		b[i] = byte(i)
	}
	return b
}

// cutter is a new one of parameters that may be.
func cutter(t *testing.T, p api.Params) *cut.Cutter {
	t.Helper()
	c, e := cut.New(p)
	if c == nil || e != api.OK {
		t.Fatalf("New(%v) = %v, %v", p, c, e)
	}
	return c
}

// written are all chunks of bytes that are written in pieces of these sizes, again and again, and ended.
func written(t *testing.T, b []byte, p api.Params, sizes ...int) [][]byte {
	t.Helper()
	c := cutter(t, p)
	var l [][]byte
	for i := 0; len(b) > 0; i++ {
		n := min(sizes[i%len(sizes)], len(b))
		l = append(l, c.Write(b[:n])...)
		b = b[n:]
	}
	return ended(c, l)
}

// ended puts what a cutter has left behind the chunks that it told.
func ended(c *cut.Cutter, l [][]byte) [][]byte {
	if last := c.End(); len(last) > 0 {
		l = append(l, last)
	}
	return l
}

// somePar are parameters that may be: with masks of none, few, and all bits that there can be, and Min, Avg and Max
// alike, beside each other, and far from each other, below, at and above the 16 bytes that a hash hangs on.
func somePar() []api.Params {
	return []api.Params{
		params(1, 1, 1), params(1, 1, 5), params(2, 2, 2), params(1, 2, 2), params(1, 2, 3), params(1, 4, 9),
		params(2, 7, 9), params(3, 8, 16), params(5, 16, 40), params(4, 8, 17), params(15, 15, 15), params(15, 16, 17),
		params(16, 16, 16), params(16, 16, 64), params(16, 17, 4096), params(17, 17, 17), params(17, 32, 50),
		params(20, 32, 64), params(1, 100, 100), params(64, 256, 1024), params(1, 4096, 4096), params(4096, 4096, 4096),
		params(1, 1, 4096),
	}
}

// someBytes are of many kinds, at each of the first sizes, and at those about a limit.
func someBytes() [][]byte {
	l := [][]byte{nil, {}}
	for n := 1; n < 70; n++ {
		l = append(l, sample(n), numbers(n), make([]byte, n), bytes.Repeat([]byte{255}, n))
	}
	for _, n := range []int{127, 128, 500, 1023, 1024, 1025, 4095, 4096, 4097, 8191, 8192, 8193, 9000} {
		l = append(l, sample(n), numbers(n), make([]byte, n), bytes.Repeat(sample(16), n/16))
	}
	return l
}

// P10.1: May and Mask.

func TestMayAndMask(t *testing.T) {
	edges := []int{math.MinInt, math.MinInt + 1, -1 << 32, -4096, -2, -1, 0, 1, 2, 3, 4, 5, 15, 16, 17, 2047, 2048, 2049, 4094, 4095, 4096, 4097, 4098, 8192, 1<<32 + 1, 1<<32 + 16, math.MaxInt - 1, math.MaxInt}
	may := 0
	for _, min := range edges {
		for _, avg := range edges {
			for _, max := range edges {
				p := params(min, avg, max)
				want, mask := mayByTheWords(p), uint32(0)
				if want {
					may++
					mask = maskByTheWords(p)
				}
				if got := cut.May(p); got != want {
					t.Errorf("May(%v) = %v", p, got)
				}
				if got := cut.Mask(p); got != mask {
					t.Errorf("Mask(%v) = %d, want %d", p, got, mask)
				}
			}
		}
	}
	if may < 100 {
		t.Error(may, "parameters that may be: the test tells little")
	}
}

func TestMaskOfEachAvg(t *testing.T) {
	for avg := 1; avg <= 4096; avg++ {
		for _, p := range []api.Params{params(1, avg, 4096), params(avg, avg, avg), params(1, avg, avg)} {
			if got, want := cut.Mask(p), maskByTheWords(p); got != want {
				t.Errorf("Mask(%v) = %d, want %d", p, got, want)
			}
		}
	}
	for avg, want := range map[int]uint32{1: 0, 2: 1, 3: 1, 4: 3, 7: 3, 8: 7, 1023: 511, 1024: 1023, 4095: 2047, 4096: 4095} {
		if got := cut.Mask(params(1, avg, 4096)); got != want {
			t.Errorf("Mask of Avg %d = %d, want %d", avg, got, want)
		}
	}
}

// P10.1: Sizes, Items, All.

// known are cuts that another hand has made.
func known() []struct {
	b     []byte
	p     api.Params
	sizes []int
} {
	fox := []byte("the quick brown fox jumps over the lazy dog")
	return []struct {
		b     []byte
		p     api.Params
		sizes []int
	}{
		{nil, params(2, 2, 2), nil},
		{[]byte("abcde"), params(2, 2, 2), []int{2, 2, 1}},
		{[]byte("abcde"), params(1, 1, 1), []int{1, 1, 1, 1, 1}},
		{[]byte("abcde"), params(1, 1, 5), []int{1, 1, 1, 1, 1}}, // a mask without bits
		{[]byte("abcde"), params(1, 4, 9), []int{1, 4}},
		{[]byte("abcde"), params(3, 8, 16), []int{4, 1}},
		{[]byte("abcde"), params(5, 16, 40), []int{5}},
		{[]byte("abcde"), params(20, 32, 64), []int{5}}, // fewer than Min
		{[]byte("abcde"), params(1, 4096, 4096), []int{5}},
		{fox, params(1, 4, 9), []int{4, 5, 5, 1, 8, 5, 4, 9, 2}},
		{fox, params(3, 8, 16), []int{4, 10, 6, 8, 4, 11}},
		{fox, params(5, 16, 40), []int{21, 22}},
		{fox, params(20, 32, 64), []int{43}},
		{fox, params(16, 17, 4096), []int{21, 22}},
		{make([]byte, 40), params(1, 4, 9), []int{4, 4, 4, 4, 4, 4, 4, 4, 4, 4}},
		{make([]byte, 40), params(3, 8, 16), []int{11, 11, 11, 7}},
		{bytes.Repeat([]byte{255}, 40), params(3, 8, 16), []int{13, 13, 13, 1}},
		{numbers(256), params(3, 8, 16), []int{4, 3, 5, 5, 10, 9, 13, 9, 16, 3, 14, 4, 4, 3, 12, 16, 16, 6, 16, 12, 15, 5, 5, 10, 8, 6, 6, 4, 16, 1}},
		{numbers(256), params(5, 16, 40), []int{34, 6, 5, 18, 8, 11, 11, 29, 40, 21, 13, 13, 12, 25, 10}},
		{numbers(256), params(20, 32, 64), []int{34, 64, 24, 63, 42, 29}},
		{numbers(256), params(16, 17, 4096), []int{34, 18, 70, 61, 19, 25, 19, 10}},
		{numbers(256), params(64, 256, 1024), []int{126, 130}},
		{sample(1000), params(20, 32, 64), []int{24, 64, 55, 64, 24, 31, 54, 36, 59, 40, 32, 64, 24, 64, 29, 26, 22, 30, 61, 30, 64, 64, 21, 18}},
		{sample(1000), params(64, 256, 1024), []int{467, 503, 30}},
	}
}

func TestKnownCuts(t *testing.T) {
	for _, x := range known() {
		if got, e := cut.Sizes(x.b, x.p); e != api.OK || !slices.Equal(got, x.sizes) {
			t.Errorf("Sizes(%.10q, %v) = %v, %v, want %v", x.b, x.p, got, e, x.sizes)
		}
		if got := sizesOf(slices.Collect(cut.All(x.b, x.p))); !slices.Equal(got, x.sizes) {
			t.Errorf("All(%.10q, %v): %v, want %v", x.b, x.p, got, x.sizes)
		}
		if got := sizesOf(written(t, x.b, x.p, 1)); !slices.Equal(got, x.sizes) {
			t.Errorf("written: %.10q, %v: %v, want %v", x.b, x.p, got, x.sizes)
		}
	}
}

func TestSizesItemsAndAllByTheWords(t *testing.T) {
	for _, p := range somePar() {
		for _, b := range someBytes() {
			want := chunksByTheWords(b, p)
			var items []api.Item
			for _, c := range want {
				items = append(items, api.Item{Name: sha256.Sum256(c), Size: len(c)})
			}
			if got, e := cut.Sizes(b, p); e != api.OK || !slices.Equal(got, sizesOf(want)) {
				t.Errorf("Sizes(%.10q.., %v) of %d = %v, %v, want %v", b, p, len(b), got, e, sizesOf(want))
			}
			if got, e := cut.Items(b, p); e != api.OK || !slices.Equal(got, items) {
				t.Errorf("Items(%.10q.., %v) of %d = %v, %v, want %v", b, p, len(b), got, e, items)
			}
			if got := slices.Collect(cut.All(b, p)); !sameChunks(got, want) {
				t.Errorf("All(%.10q.., %v) of %d: %v, want %v", b, p, len(b), sizesOf(got), sizesOf(want))
			}
		}
	}
}

// Each place from Min on is one where a chunk may end, the ones ahead are not: found among many bytes.
func TestCutsAtEachPlace(t *testing.T) {
	p := params(3, 8, 20)
	ends, early := map[int]int{}, 0
	for i := range 3000 {
		b := sample(1000 + i)[:30]
		first := len(chunksByTheWords(b, p)[0])
		ends[first]++
		for k := range p.Min {
			if k > 0 && roll.Hash(b[:k])&7 == 0 {
				early++
			}
		}
		if got, e := cut.Sizes(b, p); e != api.OK || got[0] != first {
			t.Errorf("Sizes(%v) = %v, %v, want %d first", b, got, e, first)
		}
	}
	for k := p.Min; k <= p.Max; k++ {
		if ends[k] == 0 {
			t.Errorf("no chunk of %d bytes: the test tells little", k)
		}
	}
	if early == 0 {
		t.Error("no hash without the mask's bits ahead of Min: the test tells little")
	}
}

// Of what stands ahead of a cut no byte counts for the hash, also where fewer than 16 stand behind it.
func TestHashBeginsAtTheCut(t *testing.T) {
	p := params(2, 8, 15)
	otherwise := 0
	for i := range 500 {
		b := sample(2000 + i)[:60]
		sizes, e := cut.Sizes(b, p)
		if want := sizesOf(chunksByTheWords(b, p)); e != api.OK || !slices.Equal(sizes, want) {
			t.Errorf("Sizes(%v) = %v, %v, want %v", b, sizes, e, want)
		}
		first := sizes[0]
		for k := p.Min; k < sizes[1]; k++ {
			if roll.Hash(b[:first+k])&7 == 0 { // a cut would be here, if those bytes counted
				otherwise++
			}
		}
	}
	if otherwise == 0 {
		t.Error("no cut would be elsewhere: the test tells little")
	}
}

func TestGreatBytes(t *testing.T) {
	b := sample(1 << 20)
	p := params(256, 1024, 4096)
	want := chunksByTheWords(b, p)
	if got := slices.Collect(cut.All(b, p)); !sameChunks(got, want) {
		t.Error("All")
	}
	if got := written(t, b, p, 1<<20); !sameChunks(got, want) {
		t.Error("written at once")
	}
	if got := written(t, b, p, 1); !sameChunks(got, want) {
		t.Error("written byte by byte")
	}
}

// paramsThatMayNotBe are wrong in one thing each, or in more.
func paramsThatMayNotBe() []api.Params {
	return []api.Params{
		{}, params(0, 1, 1), params(0, 0, 0), params(-1, 1, 1), params(3, 2, 9), params(1, 9, 8), params(1, 9, 4097),
		params(4097, 4097, 4097), params(1, 4097, 4097), params(5, 4, 3), params(1, 0, 1), params(1, 1, 0),
		params(math.MinInt, 1, 1), params(1, 1, math.MaxInt), params(math.MaxInt, math.MaxInt, math.MaxInt),
	}
}

func TestParamsThatMayNotBe(t *testing.T) {
	for _, p := range paramsThatMayNotBe() {
		if cut.May(p) || cut.Mask(p) != 0 {
			t.Errorf("May(%v) = %v, Mask %d", p, cut.May(p), cut.Mask(p))
		}
		for _, b := range [][]byte{nil, {}, []byte("a"), sample(100), make([]byte, 5000)} {
			if l, e := cut.Sizes(b, p); e != api.ErrArg || len(l) != 0 {
				t.Errorf("Sizes(%.10q, %v) = %v, %v", b, p, l, e)
			}
			if l, e := cut.Items(b, p); e != api.ErrArg || len(l) != 0 {
				t.Errorf("Items(%.10q, %v) = %v, %v", b, p, l, e)
			}
			all := cut.All(b, p)
			if all == nil {
				t.Fatalf("All(%.10q, %v) is nil", b, p)
			}
			for c := range all {
				t.Errorf("All(%.10q, %v): %q", b, p, c)
			}
		}
		if c, e := cut.New(p); c != nil || e != api.ErrArg {
			t.Errorf("New(%v) = %v, %v", p, c, e)
		}
	}
}

func TestOfNoBytes(t *testing.T) {
	for _, p := range somePar() {
		for _, b := range [][]byte{nil, {}} {
			if l, e := cut.Sizes(b, p); e != api.OK || len(l) != 0 {
				t.Errorf("Sizes(%v) = %v, %v", p, l, e)
			}
			if l, e := cut.Items(b, p); e != api.OK || len(l) != 0 {
				t.Errorf("Items(%v) = %v, %v", p, l, e)
			}
			all := cut.All(b, p)
			if all == nil {
				t.Fatalf("All(%v) is nil", p)
			}
			for c := range all {
				t.Errorf("All(%v): %q", p, c)
			}
			c := cutter(t, p)
			if l := c.Write(b); len(l) != 0 {
				t.Errorf("Write(%v): %q", p, l)
			}
			if l := c.End(); len(l) != 0 {
				t.Errorf("End(%v): %q", p, l)
			}
		}
	}
}

// A sequence can be left at each chunk, gone through again, and within itself, whether its last chunk ends with a cut
// or not.
func TestAllIsLeftAndGoneThroughAgain(t *testing.T) {
	p := params(5, 16, 40)
	cuts := map[bool]int{}
	for n := 1; n < 120; n++ {
		b := sample(n)
		want := chunksByTheWords(b, p)
		cuts[len(knownByTheWords(b, p)) == len(want)]++
		all := cut.All(b, p)
		for most := 1; most <= len(want); most++ {
			var got [][]byte
			calls := 0
			all(func(c []byte) bool {
				calls++
				got = append(got, c)
				return len(got) < most
			})
			if calls != most || !sameChunks(got, want[:most]) {
				t.Errorf("%d bytes, left at %d: %d calls, %v", n, most, calls, sizesOf(got))
			}
		}
		var outer [][]byte
		for c := range all {
			outer = append(outer, c)
			if got := slices.Collect(all); !sameChunks(got, want) {
				t.Errorf("%d bytes, within chunk %d: %v", n, len(outer), sizesOf(got))
			}
		}
		if !sameChunks(outer, want) {
			t.Errorf("%d bytes: %v, want %v", n, sizesOf(outer), sizesOf(want))
		}
	}
	if cuts[true] < 5 || cuts[false] < 5 {
		t.Errorf("%v bytes whose last chunk ends with a cut, or not: the test tells little", cuts)
	}
}

// The last chunk is asked for by a next one, as any other is: whoever leaves there is not told more.
func TestAllOfOneChunkIsLeft(t *testing.T) {
	for _, b := range [][]byte{[]byte("a"), []byte("ab"), []byte("abc")} {
		calls := 0
		cut.All(b, params(2, 2, 2))(func([]byte) bool {
			calls++
			return false
		})
		if calls != 1 {
			t.Errorf("All(%q): %d calls", b, calls)
		}
	}
}

// P10.2.

// What a Write tells is what is known by then, and what was not told ahead.
func TestWriteTellsWhatIsKnown(t *testing.T) {
	for _, p := range somePar() {
		for _, b := range [][]byte{sample(90), numbers(90), make([]byte, 50)} {
			c := cutter(t, p)
			var told [][]byte
			for i := range b {
				told = append(told, c.Write(b[i:i+1])...)
				if want := knownByTheWords(b[:i+1], p); !sameChunks(told, want) {
					t.Fatalf("%v: behind %d bytes %v is told, want %v", p, i+1, sizesOf(told), sizesOf(want))
				}
			}
			if got, want := ended(c, told), chunksByTheWords(b, p); !sameChunks(got, want) {
				t.Errorf("%v: %v in all, want %v", p, sizesOf(got), sizesOf(want))
			}
		}
	}
}

// End is all that was not told, at each place.
func TestEndAtEachPlace(t *testing.T) {
	for _, p := range []api.Params{params(1, 1, 1), params(2, 2, 2), params(3, 8, 16), params(5, 16, 40), params(30, 32, 64)} {
		b := sample(150)
		for n := range len(b) + 1 {
			c := cutter(t, p)
			told := bytes.Join(c.Write(b[:n]), nil)
			if end := c.End(); !bytes.Equal(end, b[len(told):n]) {
				t.Errorf("%v: behind %d bytes, of which %d are told: %v", p, n, len(told), end)
			}
			for range 2 { // and it is without bytes then
				if end := c.End(); len(end) != 0 {
					t.Errorf("%v: behind an End: %v", p, end)
				}
			}
		}
	}
}

// A cutter that was ended is as a new one, however many bytes were left.
func TestCutterBehindEnd(t *testing.T) {
	for _, p := range []api.Params{params(1, 4, 9), params(3, 8, 16), params(5, 16, 40), params(15, 16, 17), params(30, 32, 64)} {
		c := cutter(t, p)
		for n := range 70 {
			c.Write(sample(n))
			c.End()
			for _, b := range [][]byte{sample(100), numbers(100)} {
				want := knownByTheWords(b, p)
				if got := c.Write(b); !sameChunks(got, want) {
					t.Errorf("%v: behind %d bytes and an End: %v, want %v", p, n, sizesOf(got), sizesOf(want))
				}
				if got, end := c.End(), b[len(bytes.Join(want, nil)):]; !bytes.Equal(got, end) {
					t.Errorf("%v: behind %d bytes and an End: %v at the end, want %v", p, n, got, end)
				}
			}
		}
	}
}

func TestCuttersAreApart(t *testing.T) {
	p, q := params(3, 8, 16), params(5, 16, 40)
	a, b := cutter(t, p), cutter(t, q)
	x, y := sample(200), numbers(200)
	var ofA, ofB [][]byte
	for i := range x {
		ofA = append(ofA, a.Write(x[i:i+1])...)
		ofB = append(ofB, b.Write(y[i:i+1])...)
		if i == 100 { // an end of another one is none of theirs
			other := cutter(t, p)
			other.Write(x[:50])
			other.End()
		}
	}
	if got, want := ended(a, ofA), chunksByTheWords(x, p); !sameChunks(got, want) {
		t.Errorf("one: %v, want %v", sizesOf(got), sizesOf(want))
	}
	if got, want := ended(b, ofB), chunksByTheWords(y, q); !sameChunks(got, want) {
		t.Errorf("the other: %v, want %v", sizesOf(got), sizesOf(want))
	}
}

// P10.3.

func TestChunksTogetherAreTheBytes(t *testing.T) {
	for _, p := range somePar() {
		for _, b := range someBytes() {
			for what, l := range map[string][][]byte{"All": slices.Collect(cut.All(b, p)), "written": written(t, b, p, 7, 1, 100)} {
				if !bytes.Equal(bytes.Join(l, nil), b) {
					t.Errorf("%s: %v of %d bytes: %v", what, p, len(b), sizesOf(l))
				}
				for i, c := range l {
					last := i == len(l)-1
					if len(c) > p.Max || len(c) < 1 || !last && len(c) < p.Min {
						t.Errorf("%s: %v: chunk %d of %d has %d bytes", what, p, i, len(l), len(c))
					}
				}
			}
		}
	}
}

func TestInWhateverPieces(t *testing.T) {
	for _, p := range somePar() {
		for _, b := range [][]byte{sample(5000), numbers(3000), make([]byte, 4200), bytes.Repeat([]byte("abc"), 700)} {
			want := chunksByTheWords(b, p)
			for _, sizes := range [][]int{{1}, {2}, {3}, {5, 0, 1}, {15}, {16}, {17}, {0, 31}, {40}, {1, 2, 3, 4, 5, 6, 7}, {100, 1}, {1000}, {4095}, {4096}, {4097}, {len(b)}} {
				if got := written(t, b, p, sizes...); !sameChunks(got, want) {
					t.Errorf("%v of %d bytes in pieces of %v: %v, want %v", p, len(b), sizes, sizesOf(got), sizesOf(want))
				}
			}
		}
	}
}

func TestInTwoPiecesAtEachPlace(t *testing.T) {
	for _, p := range []api.Params{params(2, 2, 2), params(3, 8, 16), params(5, 16, 40), params(20, 32, 64)} {
		b := sample(200)
		want := chunksByTheWords(b, p)
		for i := range len(b) + 1 {
			c := cutter(t, p)
			l := c.Write(b[:i])
			l = append(l, c.Write(b[i:])...)
			if got := ended(c, l); !sameChunks(got, want) {
				t.Errorf("%v, split at %d: %v, want %v", p, i, sizesOf(got), sizesOf(want))
			}
		}
	}
}

// Behind each cut the chunks are those that the bytes there have alone, whatever stands ahead.
func TestSameBytesBehindACut(t *testing.T) {
	behind := sample(400)
	for _, p := range somePar() {
		want, e := cut.Sizes(behind, p)
		if e != api.OK {
			t.Fatal(e)
		}
		for _, ahead := range [][]byte{sample(300), numbers(300), make([]byte, 300), bytes.Repeat([]byte{255}, 5000)} {
			whole := 0 // how many of ahead are in chunks that do not hang on what comes behind
			chunks := 0
			for _, c := range cutter(t, p).Write(ahead) {
				whole += len(c)
				chunks++
			}
			got, e := cut.Sizes(slices.Concat(ahead[:whole], behind), p)
			if e != api.OK || !slices.Equal(got[chunks:], want) {
				t.Errorf("%v: behind %d chunks: %v, %v, want %v", p, chunks, got, e, want)
			}
		}
		all := sizesOf(chunksByTheWords(behind, p))
		at := 0
		for i, n := range all {
			if got, e := cut.Sizes(behind[at:], p); e != api.OK || !slices.Equal(got, all[i:]) {
				t.Errorf("%v: from %d on: %v, %v, want %v", p, at, got, e, all[i:])
			}
			at += n
		}
	}
}

// What is handed in, and what is answered.

func TestNothingHandedInIsChanged(t *testing.T) {
	p := params(5, 16, 40)
	for _, n := range []int{0, 1, 4, 5, 40, 41, 300} {
		room := sample(400)
		was := bytes.Clone(room)
		b := room[:n]
		cut.Sizes(b, p)
		cut.Items(b, p)
		for c := range cut.All(b, p) {
			clear(c[:cap(c)])
		}
		c := cutter(t, p)
		for _, x := range slices.Concat(c.Write(b), c.Write(b), [][]byte{c.End()}) {
			clear(x[:cap(x)])
		}
		if !bytes.Equal(room, was) {
			t.Errorf("%d bytes, or the room behind them, are changed", n)
		}
	}
}

// What is handed in may become something else, as soon as a call has answered.
func TestNothingHandedInIsKept(t *testing.T) {
	p := params(5, 16, 40)
	want := copied(chunksByTheWords(sample(300), p))
	b := sample(300)
	all := cut.All(b, p)
	clear(b)
	if got := slices.Collect(all); !sameChunks(got, want) {
		t.Errorf("All changes with its bytes: %v", sizesOf(got))
	}
	b = sample(300)
	i := 0
	for c := range cut.All(b, p) {
		clear(b)
		if !bytes.Equal(c, want[i]) {
			t.Errorf("All changes with its bytes, under way: chunk %d", i)
		}
		i++
	}
	var l [][]byte
	c := cutter(t, p)
	piece := make([]byte, 7, 20)
	for rest := sample(300); len(rest) > 0; {
		n := copy(piece, rest)
		l = append(l, c.Write(piece[:n])...)
		clear(piece[:cap(piece)])
		rest = rest[n:]
	}
	if got := ended(c, l); !sameChunks(got, want) {
		t.Error("a cutter's chunks change with what was written")
	}
}

// spoil fills a chunk and all the room behind it.
func spoil(c []byte) {
	for i := range c[:cap(c)] {
		c[:cap(c)][i] = 77
	}
}

// spoiledOneByOne spoils each chunk when all were told, and tells faults of those that were not spoilt yet.
func spoiledOneByOne(t *testing.T, what string, l, want [][]byte) {
	t.Helper()
	if !sameChunks(l, want) {
		t.Fatalf("%s: %v, want %v", what, sizesOf(l), sizesOf(want))
	}
	for i := range l {
		spoil(l[i])
		if !sameChunks(l[i+1:], want[i+1:]) {
			t.Errorf("%s: chunk %d shares memory with a later one", what, i)
		}
	}
}

func reversed(l [][]byte) [][]byte {
	l = slices.Clone(l)
	slices.Reverse(l)
	return l
}

func TestAnswersAreNewMemory(t *testing.T) {
	p := params(5, 16, 40)
	b := sample(300)
	want := copied(chunksByTheWords(b, p))
	all := func() iter.Seq[[]byte] { return cut.All(b, p) }
	spoiledOneByOne(t, "All", slices.Collect(all()), want)
	spoiledOneByOne(t, "All, from the last on", reversed(slices.Collect(all())), reversed(want))
	for _, size := range []int{1, 7, 40, 300} {
		what := fmt.Sprintf("pieces of %d", size)
		spoiledOneByOne(t, what, written(t, b, p, size), want)
		spoiledOneByOne(t, what+", from the last on", reversed(written(t, b, p, size)), reversed(want))
	}
	again := all()
	i := 0
	for c := range again { // spoilt under way, ahead of the next ones
		if !bytes.Equal(c, want[i]) {
			t.Errorf("All: chunk %d hangs on those ahead", i)
		}
		spoil(c)
		i++
	}
	if got := slices.Collect(again); !sameChunks(got, want) {
		t.Error("All, gone through again, hangs on what was told")
	}
	if got := slices.Collect(all()); !sameChunks(got, want) {
		t.Error("All's chunks are the bytes themselves")
	}
}

// Chunks that were told, and spoilt, are nothing to a cutter any more.
func TestCutterHangsOnNothingTold(t *testing.T) {
	p := params(5, 16, 40)
	b := sample(600)
	for _, size := range []int{1, 7, 40, 100} {
		c := cutter(t, p)
		for range 2 {
			want := chunksByTheWords(b, p)
			hold := func(x []byte) {
				if !bytes.Equal(x, want[0]) {
					t.Fatalf("pieces of %d: %v, want %v", size, x, want[0])
				}
				spoil(x)
				want = want[1:]
			}
			for i := 0; i < len(b); i += size {
				for _, x := range c.Write(b[i:min(i+size, len(b))]) {
					hold(x)
				}
			}
			if len(want) > 0 {
				hold(c.End())
			}
		}
	}
}

func TestListsAreNew(t *testing.T) {
	b, p := sample(300), params(5, 16, 40)
	sizes, _ := cut.Sizes(b, p)
	items, _ := cut.Items(b, p)
	wantSizes, wantItems := slices.Clone(sizes), slices.Clone(items)
	clear(sizes)
	clear(items)
	sizes, _ = cut.Sizes(b, p)
	items, _ = cut.Items(b, p)
	if !slices.Equal(sizes, wantSizes) || !slices.Equal(items, wantItems) {
		t.Error("two answers share memory")
	}
	c := cutter(t, params(1, 1, 1))
	first := c.Write([]byte("abc"))
	second := c.Write([]byte("def"))
	clear(first[:cap(first)])
	if !sameChunks(second, [][]byte{[]byte("d"), []byte("e"), []byte("f")}) {
		t.Errorf("two answers of Write share memory: %q", second)
	}
}
