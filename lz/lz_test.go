package lz_test

import (
	"bytes"
	"math"
	"slices"
	"strings"
	"testing"

	"lighterage/api"
	"lighterage/lz"
)

// matchByTheWords is a match as the chapter tells it: each distance is tried, at its whole length.
func matchByTheWords(b []byte, i int) (int, int) {
	if i < 0 || i >= len(b) {
		return 0, 0
	}
	var lengths [1025]int
	for d := 1; d <= min(1024, i); d++ {
		for lengths[d] < 131 && i+lengths[d] < len(b) && b[i+lengths[d]] == b[i+lengths[d]-d] {
			lengths[d]++
		}
	}
	n := slices.Max(lengths[:])
	if n < 4 {
		return 0, 0
	}
	return n, slices.Index(lengths[:], n)
}

// packByTheWords is bytes packed as the chapter tells it, a byte or a match at a time.
func packByTheWords(b []byte) []byte {
	var p []byte
	head := -1 // where the token of literal ones begins that is not full
	for i := 0; i < len(b); {
		n, d := matchByTheWords(b, i)
		if n > 0 {
			p = append(p, byte(128+n-4), byte((d-1)%256), byte((d-1)/256))
			i += n
			head = -1
			continue
		}
		if head < 0 || p[head] == 127 {
			head = len(p)
			p = append(p, 0, b[i])
		} else {
			p[head]++
			p = append(p, b[i])
		}
		i++
	}
	return p
}

// sample is n bytes out of kinds; of 256 of them, a piece is like no other.
func sample(n, kinds int) []byte {
	b := make([]byte, n)
	x := uint32(n)*256 + uint32(kinds)
	for i := range b {
		x = x*1664525 + 1013904223
		b[i] = byte(int(x>>16&0xFFFF) * kinds >> 16)
	}
	return b
}

// woven is n bytes, pieces of which were there before, at all distances.
func woven(n int) []byte {
	b := sample(min(n, 40), 256)
	x := uint32(n) + 7
	for len(b) < n {
		x = x*1664525 + 1013904223
		from, size := int(x>>8)%len(b), int(x>>24)%150
		for k := range size {
			b = append(b, b[from+k])
		}
		b = append(b, byte(x>>16))
	}
	return b[:n]
}

// apart is n bytes in which no four stand twice.
func apart(n int) []byte {
	b := make([]byte, 0, n+2)
	for i := 0; len(b) < n; i++ {
		b = append(b, byte(i), byte(i>>8)|128)
	}
	return b[:n]
}

// inputs are bytes of many kinds, at many sizes.
func inputs() [][]byte {
	l := [][]byte{nil, {}}
	for _, n := range []int{1, 2, 3, 4, 5, 8, 127, 128, 129, 130, 131, 132, 133, 135, 136, 255, 256, 257, 262, 263, 600, 1300} {
		l = append(l, make([]byte, n), bytes.Repeat([]byte{255}, n), sample(n, 2), sample(n, 3), sample(n, 8), sample(n, 256), woven(n), apart(n))
		for _, period := range []int{2, 3, 4, 5, 127, 128, 129} {
			l = append(l, bytes.Repeat(sample(period, 256), n/period+1)[:n])
		}
	}
	for _, period := range []int{1023, 1024, 1025} {
		l = append(l, bytes.Repeat(apart(period), 3))
	}
	return append(l, sample(4096, 2), sample(4096, 4), sample(4096, 256), woven(4096), woven(5000))
}

// P5.1: Match.

func TestMatchOfFewBytes(t *testing.T) {
	for _, x := range []struct {
		b       string
		i, n, d int
	}{
		{"aaaaaaaa", 0, 0, 0}, // nothing is ahead
		{"aaaaaaaa", 1, 7, 1}, // it reaches into itself
		{"aaaaaaaa", 4, 4, 1}, // the least distance
		{"aaaaaaaa", 5, 0, 0}, // three bytes
		{"aaaaa", 1, 4, 1},
		{"aaaa", 1, 0, 0},
		{"abcdabcd", 4, 4, 4},
		{"abcdabce", 4, 0, 0},
		{"abcdabc", 4, 0, 0},
		{"abcdabcdabcdabc", 4, 11, 4},
		{"abcdabcdabcdabc", 8, 7, 4},
		{"abababab", 2, 6, 2},
		{"abcd-abcd+abcd", 10, 4, 5},         // of two, the nearer one
		{"abcde-abcd+abcde", 11, 5, 11},      // of two, the longer one, further off
		{"abcd-abcde+abcde", 11, 5, 6},       // of two, the longer one, nearer
		{"abcde-abcd+abcde.", 11, 5, 11},     // and it ends ahead of the end
		{"abcde-abcd*abcde+abcde", 17, 5, 6}, // of two longer ones
		{"\x00\x00\x00\x00\x01\x00\x00\x00\x00", 5, 4, 5},
	} {
		if n, d := lz.Match([]byte(x.b), x.i); n != x.n || d != x.d {
			t.Errorf("Match(%q, %d) = %d, %d, want %d, %d", x.b, x.i, n, d, x.n, x.d)
		}
	}
}

func TestMatchAtNoPlace(t *testing.T) {
	for _, b := range [][]byte{nil, {}, []byte("a"), []byte("aaaaaaaa"), make([]byte, 3000)} {
		for _, i := range []int{-1, -2, -len(b) - 1, math.MinInt, len(b), len(b) + 1, len(b) + 2000, math.MaxInt} {
			if n, d := lz.Match(b, i); n != 0 || d != 0 {
				t.Errorf("%d bytes: Match at %d: %d, %d", len(b), i, n, d)
			}
		}
	}
}

// The longest one has 131 bytes, whatever else is alike behind them.
func TestMatchOfEachLength(t *testing.T) {
	for size := range 140 {
		same := apart(size)
		b := slices.Concat(same, []byte("<-------->"), same, []byte("+++"))
		want, far := min(size, 131), size+10
		if size < 4 {
			want, far = 0, 0
		}
		if n, d := lz.Match(b, size+10); n != want || d != far {
			t.Errorf("%d bytes alike: %d, %d, want %d, %d", size, n, d, want, far)
		}
		zeros := make([]byte, size+1)
		if n, _ := lz.Match(zeros, 1); n != want {
			t.Errorf("%d noughts behind one: %d, want %d", size, n, want)
		}
	}
}

// Of two at least 131 bytes long, the nearer one counts, if the further one has more alike too.
func TestMatchOfTheGreatestLengthIsTheNearest(t *testing.T) {
	same := apart(140)
	b := slices.Concat(same, []byte("<"), same[:131], []byte(">"), same)
	if n, d := lz.Match(b, 273); n != 131 || d != 132 {
		t.Errorf("%d, %d, want 131, 132", n, d)
	}
	b = slices.Concat(same, []byte("<"), same[:130], []byte(">"), same)
	if n, d := lz.Match(b, 272); n != 131 || d != 272 {
		t.Errorf("%d, %d, want 131, 272", n, d)
	}
}

func TestMatchAtEachDistance(t *testing.T) {
	for d := 4; d < 1100; d++ {
		b := slices.Concat([]byte("wxyz"), make([]byte, d-4), []byte("wxyz"))
		wantN, wantD := 4, d
		if d > 1024 {
			wantN, wantD = 0, 0
		}
		for _, ahead := range [][]byte{nil, []byte("------"), make([]byte, 2000)} {
			if n, got := lz.Match(append(ahead, b...), len(ahead)+d); n != wantN || got != wantD {
				t.Errorf("%d ahead, behind %d bytes: %d, %d, want %d, %d", d, len(ahead), n, got, wantN, wantD)
			}
		}
	}
}

// A longer one that is too far off does not count.
func TestMatchTooFarOffLeavesTheShorterOne(t *testing.T) {
	for far := 1020; far < 1030; far++ {
		b := slices.Concat([]byte("wxyz+"), make([]byte, far-13), []byte("wxyz-"), []byte("123"), []byte("wxyz+"))
		n, d := lz.Match(b, far)
		if far <= 1024 && (n != 5 || d != far) || far > 1024 && (n != 4 || d != 8) {
			t.Errorf("%d ahead: %d, %d", far, n, d)
		}
	}
}

func TestMatchAtEachPlace(t *testing.T) {
	for _, b := range inputs() {
		if len(b) > 1300 {
			continue
		}
		for i := range len(b) {
			n, d := lz.Match(b, i)
			if wantN, wantD := matchByTheWords(b, i); n != wantN || d != wantD {
				t.Fatalf("%d bytes (%q ..), at %d: %d, %d, want %d, %d", len(b), b[:min(20, len(b))], i, n, d, wantN, wantD)
			}
		}
	}
}

// P5.1: Pack.

func TestPackOfKnownBytes(t *testing.T) {
	for _, x := range []struct{ b, want string }{
		{"", ""},
		{"a", "\x00a"},
		{"abc", "\x02abc"},
		{"aaaa", "\x03aaaa"},
		{"aaaaa", "\x00a\x80\x00\x00"},
		{"aaaaaaaa", "\x00a\x83\x00\x00"},
		{"abababab", "\x01ab\x82\x01\x00"},
		{"abcdabc", "\x06abcdabc"},
		{"abcdabcd", "\x03abcd\x80\x03\x00"},
		{"abcdabcdefgh", "\x03abcd\x80\x03\x00\x03efgh"},
		{"abcdabcd-abcd", "\x03abcd\x80\x03\x00\x00-\x80\x04\x00"},
		{"abcd-abcdbcd-", "\x04abcd-\x80\x04\x00\x80\x07\x00"}, // one match right behind another
		{"abcdeabcd+bcde", "\x04abcde\x80\x04\x00\x00+\x80\x08\x00"},
		{"\xff\xff\xff\xff\xff", "\x00\xff\x80\x00\x00"},
	} {
		if got := lz.Pack([]byte(x.b)); string(got) != x.want {
			t.Errorf("Pack(%q) = %q, want %q", x.b, got, x.want)
		}
	}
	if got := lz.Pack(nil); len(got) != 0 {
		t.Errorf("Pack(nil) = %q", got)
	}
}

func TestPackOfLiteralBytes(t *testing.T) {
	for n := range 400 {
		b := apart(n)
		var want []byte
		for rest := b; len(rest) > 0; {
			size := min(len(rest), 128)
			want = append(append(want, byte(size-1)), rest[:size]...)
			rest = rest[size:]
		}
		if got := lz.Pack(b); !bytes.Equal(got, want) {
			t.Errorf("%d literal bytes: %v, want %v", n, got, want)
		}
	}
}

// Behind a match a new token begins, however few literal bytes the one ahead has.
func TestPackOfLiteralBytesAroundAMatch(t *testing.T) {
	for ahead := 4; ahead < 300; ahead++ {
		head := apart(ahead)
		b := slices.Concat(head, head[:4], []byte("<!>"))
		want := append(lz.Pack(head), 128, byte(ahead-1), byte((ahead-1)>>8), 2, '<', '!', '>')
		if got := lz.Pack(b); !bytes.Equal(got, want) {
			t.Errorf("a match behind %d bytes: %v, want %v", ahead, got, want)
		}
	}
}

func TestPackOfOneByteOverAndOver(t *testing.T) {
	for n := 5; n < 600; n++ {
		want := []byte{0, 'x'}
		rest := n - 1
		for ; rest >= 4; rest -= min(rest, 131) {
			want = append(want, byte(128+min(rest, 131)-4), 0, 0)
		}
		if rest > 0 {
			want = append(append(want, byte(rest-1)), strings.Repeat("x", rest)...)
		}
		if got := lz.Pack(bytes.Repeat([]byte("x"), n)); !bytes.Equal(got, want) {
			t.Errorf("%d times x: %v, want %v", n, got, want)
		}
	}
}

func TestPackOfAMatchFarOff(t *testing.T) {
	for d := 1000; d < 1050; d++ {
		b := slices.Concat(apart(d), apart(8))
		got := lz.Pack(b)
		var want []byte
		if d <= 1024 {
			want = append(lz.Pack(apart(d)), 128+4, byte((d-1)%256), 3)
		} else {
			want = packByTheWords(b)
			if k, _ := lz.Count(want); k != (d+8+127)/128 {
				t.Fatalf("%d ahead: not all of it is literal", d)
			}
		}
		if !bytes.Equal(got, want) {
			t.Errorf("%d ahead: %v, want %v", d, got, want)
		}
	}
}

func TestPackOfManyKinds(t *testing.T) {
	for _, b := range inputs() {
		if got := lz.Pack(b); !bytes.Equal(got, packByTheWords(b)) {
			t.Errorf("%d bytes (%q ..) are packed otherwise", len(b), b[:min(20, len(b))])
		}
	}
}

func TestPackIsItsMatches(t *testing.T) {
	b := woven(20000)
	var want []byte
	literal := 0
	put := func(end int) {
		for piece := range slices.Chunk(b[literal:end], 128) {
			want = append(append(want, byte(len(piece)-1)), piece...)
		}
	}
	for i := 0; i < len(b); {
		n, d := lz.Match(b, i)
		if n == 0 {
			i++
			continue
		}
		put(i)
		want = append(want, byte(124+n), byte(d-1), byte((d-1)>>8))
		i += n
		literal = i
	}
	put(len(b))
	if got := lz.Pack(b); !bytes.Equal(got, want) {
		t.Error("a token is not the match at its place")
	}
}

// P5.2: Unpack.

func TestUnpackOfKnownTokens(t *testing.T) {
	for _, x := range []struct{ p, want string }{
		{"", ""},
		{"\x00a", "a"},
		{"\x02abc", "abc"},
		{"\x00a\x83\x00\x00", "aaaaaaaa"},
		{"\x01ab\x80\x01\x00", "ababab"},
		{"\x01ab\x80\x00\x00", "abbbbb"},
		{"\x03abcd\x82\x03\x00", "abcdabcdab"},
		{"\x03abcd\x80\x02\x00", "abcdbcdb"},
		// otherwise than Pack would
		{"\x00a\x00b\x00c", "abc"},
		{"\x03aaaa", "aaaa"},
		{"\x07aaaaaaaa", "aaaaaaaa"},
		{"\x00a\x80\x00\x00\x80\x00\x00", "aaaaaaaaa"},
		{"\x08abcd-abcd\x80\x08\x00", "abcd-abcdabcd"}, // not the least distance
		{"\x01\x00\x80\x80\x00\x00", "\x00\x80\x80\x80\x80\x80"},
	} {
		for _, most := range []int{len(x.want), len(x.want) + 1, 1 << 20, math.MaxInt} {
			if got, e := lz.Unpack([]byte(x.p), most); string(got) != x.want || e != api.OK {
				t.Errorf("Unpack(%q, %d) = %q, %v, want %q", x.p, most, got, e, x.want)
			}
		}
	}
}

func TestUnpackOfEachLength(t *testing.T) {
	for c := range 256 {
		p := append([]byte{byte(c)}, sample(c+1, 256)...)
		want := p[1:]
		if c >= 128 {
			p = []byte{1, 'x', 'y', byte(c), 0, 0}
			want = []byte("x" + strings.Repeat("y", 1+c-124))
		}
		if got, e := lz.Unpack(p, 200); !bytes.Equal(got, want) || e != api.OK {
			t.Errorf("the token %d: %v, %v, want %v", c, got, e, want)
		}
		if k, e := lz.Count(p); e != api.OK || c < 128 && k != 1 || c >= 128 && k != 2 {
			t.Errorf("the token %d: %d tokens, %v", c, k, e)
		}
	}
}

// A token has room for distances up to 65536; none is refused for more than there are bytes.
func TestUnpackAtEachDistance(t *testing.T) {
	ahead := sample(65536, 256)
	var p []byte
	for piece := range slices.Chunk(ahead, 128) {
		p = append(append(p, 127), piece...)
	}
	for _, d := range []int{1, 2, 3, 4, 255, 256, 257, 1023, 1024, 1025, 4096, 65535, 65536} {
		got, e := lz.Unpack(append(p, 255, byte(d-1), byte((d-1)>>8)), 65536+131)
		want := bytes.Clone(ahead)
		for range 131 {
			want = append(want, want[len(want)-d])
		}
		if !bytes.Equal(got, want) || e != api.OK {
			t.Errorf("%d ahead: %d bytes, %v", d, len(got), e)
		}
	}
}

func TestUnpackRefusesDistancesThatReachTooFar(t *testing.T) {
	for n := range 300 {
		var p []byte
		for piece := range slices.Chunk(sample(n, 256), 100) {
			p = append(append(p, byte(len(piece)-1)), piece...)
		}
		for d := 1; d < 600; d++ {
			want := api.OK
			if d > n {
				want = api.ErrForm
			}
			got, e := lz.Unpack(append(p, 128, byte(d-1), byte((d-1)>>8)), 1000)
			if e != want || e == api.OK && len(got) != n+4 || e != api.OK && len(got) != 0 {
				t.Errorf("%d ahead, behind %d bytes: %d bytes, %v, want %v", d, n, len(got), e, want)
			}
		}
	}
}

func TestUnpackRefusals(t *testing.T) {
	for _, x := range []struct {
		p    string
		most int
		want api.Errno
	}{
		// it ends within a token
		{"\x00", 9, api.ErrForm},
		{"\x01a", 9, api.ErrForm},
		{"\x7f", 999, api.ErrForm},
		{"\x80", 9, api.ErrForm},
		{"\xff", 999, api.ErrForm},
		{"\x00a\x80", 9, api.ErrForm},
		{"\x00a\x80\x00", 9, api.ErrForm},
		{"\x00a\x00", 9, api.ErrForm},
		// the distance is above what there is
		{"\x80\x00\x00", 9, api.ErrForm},
		{"\x00a\x80\x01\x00", 9, api.ErrForm},
		{"\x00a\x80\x00\x01", 9, api.ErrForm},
		{"\x00a\x80\xff\xff", 9, api.ErrForm},
		{"\x00a\x80\x00\x00\x80\x05\x00", 99, api.ErrForm},
		// there would be more
		{"\x00a", 0, api.ErrRange},
		{"\x01ab", 1, api.ErrRange},
		{"\x00a\x00b", 1, api.ErrRange},
		{"\x00a\x80\x00\x00", 4, api.ErrRange},
		{"\x00a\x80\x00\x00\x00b", 5, api.ErrRange},
		// most is below 0
		{"\x00a", -1, api.ErrRange},
		{"\x00a", math.MinInt, api.ErrRange},
		{"\x02abc\x80\x00", math.MinInt, api.ErrRange},
		{"\x00", -1, api.ErrForm},
		{"\x80\x00\x00", -1, api.ErrForm},
		{"\x80\x00", math.MinInt, api.ErrForm},
		// several hold of one token
		{"\x00a\x80\x00", 1, api.ErrForm},
		{"\x00a\x80\x01\x00", 1, api.ErrForm},
		{"\x05a", 1, api.ErrForm},
		// of several tokens
		{"\x00a\x80\x00\x00\x05", 4, api.ErrRange},
		{"\x00a\x80\x00\x00\x05", 5, api.ErrForm},
		{"\x00a\x00b\x80\x09\x00", 1, api.ErrRange},
		{"\x00a\x80\x09\x00\x00b", 1, api.ErrForm},
		{"\x02abc\x80\x03\x00\x00x", 3, api.ErrForm},
	} {
		if got, e := lz.Unpack([]byte(x.p), x.most); len(got) != 0 || e != x.want {
			t.Errorf("Unpack(%q, %d) = %q, %v, want none, %v", x.p, x.most, got, e, x.want)
		}
	}
}

func TestUnpackOfNothing(t *testing.T) {
	for _, most := range []int{0, 1, -1, math.MinInt, math.MaxInt} {
		for _, p := range [][]byte{nil, {}} {
			if got, e := lz.Unpack(p, most); len(got) != 0 || e != api.OK {
				t.Errorf("Unpack(nothing, %d) = %q, %v", most, got, e)
			}
		}
	}
}

func TestUnpackUpToMost(t *testing.T) {
	for _, b := range inputs() {
		p := lz.Pack(b)
		for _, most := range []int{0, 1, len(b) / 2, max(0, len(b)-1), len(b), len(b) + 1} {
			got, e := lz.Unpack(p, most)
			if most >= len(b) && (e != api.OK || !bytes.Equal(got, b)) {
				t.Errorf("%d bytes, %d at most: %d bytes, %v", len(b), most, len(got), e)
			}
			if most < len(b) && (e != api.ErrRange || len(got) != 0) {
				t.Errorf("%d bytes, %d at most: %d bytes, %v, want ErrRange", len(b), most, len(got), e)
			}
		}
	}
}

// Wherever it is broken off, it ends within a token, or has fewer.
func TestUnpackAndCountOfWhatIsBrokenOff(t *testing.T) {
	b := woven(700)
	p := lz.Pack(b)
	ends := map[int]int{0: 0} // tokens, by where the last one ends
	for i, k := 0, 0; i < len(p); {
		if p[i] < 128 {
			i += int(p[i]) + 2
		} else {
			i += 3
		}
		k++
		ends[i] = k
	}
	for n := range len(p) + 1 {
		want, whole := ends[n]
		k, e := lz.Count(p[:n])
		if whole && (k != want || e != api.OK) || !whole && (k != 0 || e != api.ErrForm) {
			t.Errorf("Count of the first %d bytes: %d, %v, want %d", n, k, e, want)
		}
		got, e := lz.Unpack(p[:n], len(b))
		if whole && (e != api.OK || !bytes.HasPrefix(b, got)) || !whole && (e != api.ErrForm || len(got) != 0) {
			t.Errorf("Unpack of the first %d bytes: %d bytes, %v", n, len(got), e)
		}
	}
}

// Whatever comes, each call ends, and Count tells ErrForm only if Unpack does.
func TestUnpackAndCountOfAnyBytes(t *testing.T) {
	for n := range 300 {
		for _, kinds := range []int{2, 4, 100, 256} {
			p := sample(n, kinds)
			for i := range p {
				if kinds == 4 {
					p[i] *= 64
				}
			}
			k, e := lz.Count(p)
			got, f := lz.Unpack(p, 1<<20)
			if e == api.ErrForm && f != api.ErrForm || e != api.OK && k != 0 || f != api.OK && len(got) != 0 {
				t.Errorf("%v: %d tokens, %v; %d bytes, %v", p, k, e, len(got), f)
			}
		}
	}
}

// P5.2: Count.

func TestCountOfKnownTokens(t *testing.T) {
	for _, x := range []struct {
		p    string
		want int
		e    api.Errno
	}{
		{"", 0, api.OK},
		{"\x00a", 1, api.OK},
		{"\x02abc", 1, api.OK},
		{"\x00a\x00b", 2, api.OK},
		{"\x00a\x80\x00\x00\x01bc", 3, api.OK},
		{"\x01\x80\x80\x00a", 2, api.OK},        // literal bytes that look like a match
		{"\x80\x00\x00", 1, api.OK},             // a distance is not looked at
		{"\x80\xff\xff\xff\xff\xff", 2, api.OK}, // nor are two
		{"\x00", 0, api.ErrForm},
		{"\x01a", 0, api.ErrForm},
		{"\x80", 0, api.ErrForm},
		{"\x80\x00", 0, api.ErrForm},
		{"\x00a\x80\x00", 0, api.ErrForm},
		{"\x00a\x00b\x02cd", 0, api.ErrForm},
	} {
		if k, e := lz.Count([]byte(x.p)); k != x.want || e != x.e {
			t.Errorf("Count(%q) = %d, %v, want %d, %v", x.p, k, e, x.want, x.e)
		}
	}
	if k, e := lz.Count(nil); k != 0 || e != api.OK {
		t.Errorf("Count(nil) = %d, %v", k, e)
	}
}

// P5.3.

func TestWhatIsPackedIsUnpacked(t *testing.T) {
	l := inputs()
	for n := range 500 {
		l = append(l, sample(n, 2), sample(n, 5), woven(n))
	}
	for _, n := range []int{65536, 1 << 20} {
		l = append(l, make([]byte, n), sample(n, 2), sample(n, 256), woven(n))
	}
	for _, b := range l {
		p := lz.Pack(b)
		if got, e := lz.Unpack(p, len(b)); e != api.OK || !bytes.Equal(got, b) {
			t.Errorf("%d bytes (%q ..) are unpacked as %d, %v", len(b), b[:min(20, len(b))], len(got), e)
		}
		if _, e := lz.Count(p); e != api.OK {
			t.Errorf("%d bytes (%q ..): Count tells %v", len(b), b[:min(20, len(b))], e)
		}
		again := lz.Pack(p)
		if got, e := lz.Unpack(again, len(p)); e != api.OK || !bytes.Equal(got, p) {
			t.Errorf("what is packed, of %d bytes, is not unpacked as it was: %v", len(b), e)
		}
	}
}

func TestEachTextOfTwoBytes(t *testing.T) {
	for n := range 13 {
		for x := range 1 << n {
			b := make([]byte, n)
			for i := range b {
				b[i] = 'a' + byte(x>>i&1)
			}
			p := lz.Pack(b)
			if got, e := lz.Unpack(p, n); e != api.OK || !bytes.Equal(got, b) || !bytes.Equal(p, packByTheWords(b)) {
				t.Errorf("%q is packed as %q, and unpacked as %q, %v", b, p, got, e)
			}
		}
	}
}

// R4: what is handed in is neither changed nor kept, nor is the room behind it looked into.

func TestArgumentsAndTheirRoomAreLeft(t *testing.T) {
	for _, text := range []string{"", "abc", "aaaaaaaaaa", "abcdabcdabcd", "abcd-abcd+"} {
		b := []byte(text)
		for name, call := range map[string]func([]byte) []byte{
			"Pack":   lz.Pack,
			"Unpack": func(p []byte) []byte { got, _ := lz.Unpack(p, 100); return got },
		} {
			all := b
			if name == "Unpack" {
				all = lz.Pack(b)
			}
			room := append(bytes.Clone(all), all...)
			was := bytes.Clone(room)
			got := call(room[:len(all)])
			lz.Match(room[:len(all)], 4)
			lz.Count(room[:len(all)])
			_ = append(got, "what is put behind"...)
			if !bytes.Equal(room, was) {
				t.Errorf("%s of %q: it, or the room behind it, is changed: %q", name, all, room)
			}
			kept := bytes.Clone(got)
			for i := range room {
				room[i] ^= 255
			}
			if !bytes.Equal(got, kept) || !bytes.Equal(got, call(all)) {
				t.Errorf("%s of %q shares memory, or looks into the room: %q", name, all, got)
			}
		}
	}
	if n, d := lz.Match([]byte("abcdabcd")[:7], 4); n != 0 || d != 0 {
		t.Errorf("the room is of the match: %d, %d", n, d)
	}
	if k, e := lz.Count([]byte("\x00a\x80\x00\x00")[:4]); k != 0 || e != api.ErrForm {
		t.Errorf("the room is of the tokens: %d, %v", k, e)
	}
}
