package index_test

import (
	"bytes"
	"crypto/sha256"
	"encoding/binary"
	"encoding/hex"
	"hash/crc32"
	"math"
	"slices"
	"strings"
	"testing"

	"lighterage/api"
	"lighterage/cut"
	"lighterage/index"
)

func params(min, avg, max int) api.Params { return api.Params{Min: min, Avg: avg, Max: max} }

// sample is n bytes, of which a piece is like no other.
func sample(n int) []byte {
	b := make([]byte, n)
	x := uint32(n) + 1
	for i := range b {
		x = x*1664525 + 1013904223
		b[i] = byte(x >> 24)
	}
	return b
}

// nameOf is a digest that no other number has.
func nameOf(n int) api.Digest { return sha256.Sum256(binary.BigEndian.AppendUint64(nil, uint64(n))) }

// sized are items of these sizes, each of another name.
func sized(sizes ...int) []api.Item {
	var l []api.Item
	for i, n := range sizes {
		l = append(l, api.Item{Name: nameOf(i), Size: n})
	}
	return l
}

// of is an index of items of these sizes.
func of(p api.Params, sizes ...int) index.Index {
	return index.Index{Params: p, Image: nameOf(-1), Items: sized(sizes...)}
}

// times is size n times, and those of others behind.
func times(n, size int, others ...int) []int { return append(slices.Repeat([]int{size}, n), others...) }

func paramsMayByTheWords(p api.Params) bool {
	return p.Min >= 1 && p.Avg >= p.Min && p.Max >= p.Avg && p.Max <= 4096
}

// mayByTheWords goes through the words of the chapter, one by one.
func mayByTheWords(x index.Index) bool {
	if !paramsMayByTheWords(x.Params) {
		return false
	}
	if len(x.Items) == 0 {
		return true
	}
	ahead, last := x.Items[:len(x.Items)-1], x.Items[len(x.Items)-1]
	for _, item := range ahead {
		if item.Size < x.Params.Min || item.Size > x.Params.Max {
			return false
		}
	}
	if last.Size < 1 || last.Size > x.Params.Max {
		return false
	}
	if len(x.Items) > 4096 {
		return false
	}
	left := 65536
	for _, item := range x.Items {
		left -= item.Size
	}
	return left >= 0
}

// A layout as the library reads and writes it.
type (
	head struct {
		Mark          [4]byte
		Min, Avg, Max uint32
		Image         [32]byte
		Count         uint32
	}
	item struct {
		Name [32]byte
		Size uint32
	}
)

// checked puts behind bytes the library's check of them.
func checked(b []byte) []byte {
	sum := crc32.Checksum(b, crc32.MakeTable(crc32.Castagnoli))
	return binary.LittleEndian.AppendUint32(slices.Clip(b), sum)
}

// bodyByTheWords is what stands ahead of the check in an index's bytes.
func bodyByTheWords(t *testing.T, x index.Index) []byte {
	t.Helper()
	var b bytes.Buffer
	h := head{Min: uint32(x.Min), Avg: uint32(x.Avg), Max: uint32(x.Max), Image: x.Image, Count: uint32(len(x.Items))}
	copy(h.Mark[:], "LTI1")
	if e := binary.Write(&b, binary.LittleEndian, h); e != nil {
		t.Fatal(e)
	}
	for _, it := range x.Items {
		if e := binary.Write(&b, binary.LittleEndian, item{it.Name, uint32(it.Size)}); e != nil {
			t.Fatal(e)
		}
	}
	return b.Bytes()
}

// readByTheWords is the index whose bytes these are, and what Read is to tell.
func readByTheWords(b []byte) (index.Index, api.Errno) {
	if len(b) < 4 {
		return index.Index{}, api.ErrForm
	}
	body := b[:len(b)-4]
	if !bytes.Equal(checked(body), b) {
		return index.Index{}, api.ErrSum
	}
	r := bytes.NewReader(body)
	var h head
	if e := binary.Read(r, binary.LittleEndian, &h); e != nil || string(h.Mark[:]) != "LTI1" {
		return index.Index{}, api.ErrForm
	}
	x := index.Index{Params: params(int(h.Min), int(h.Avg), int(h.Max)), Image: h.Image}
	for r.Len() > 0 {
		var it item
		if e := binary.Read(r, binary.LittleEndian, &it); e != nil {
			return index.Index{}, api.ErrForm
		}
		x.Items = append(x.Items, api.Item{Name: it.Name, Size: int(it.Size)})
	}
	if uint64(h.Count) != uint64(len(x.Items)) || !mayByTheWords(x) {
		return index.Index{}, api.ErrForm
	}
	return x, api.OK
}

// sameByTheWords holds each field of two against the other's.
func sameByTheWords(a, b index.Index) bool {
	if a.Min != b.Min || a.Avg != b.Avg || a.Max != b.Max || a.Image != b.Image || len(a.Items) != len(b.Items) {
		return false
	}
	for i, item := range a.Items {
		if item.Name != b.Items[i].Name || item.Size != b.Items[i].Size {
			return false
		}
	}
	return true
}

func isZero(x index.Index) bool { return sameByTheWords(x, index.Index{}) }

// somePar are parameters that may be.
func somePar() []api.Params {
	return []api.Params{
		params(1, 1, 1), params(1, 1, 5), params(2, 2, 2), params(1, 2, 3), params(1, 4, 9), params(2, 4, 9),
		params(3, 8, 16), params(5, 16, 40), params(16, 16, 16), params(16, 17, 4096), params(20, 32, 64),
		params(64, 256, 1024), params(255, 256, 257), params(1, 4096, 4096), params(4096, 4096, 4096), params(1, 1, 4096),
	}
}

// paramsThatMayNotBe are wrong in one thing each, or in more.
func paramsThatMayNotBe() []api.Params {
	return []api.Params{
		{}, params(0, 1, 1), params(-1, 1, 1), params(3, 2, 9), params(1, 9, 8), params(1, 9, 4097), params(1, 4097, 4097),
		params(4097, 4097, 4097), params(5, 4, 3), params(1, 0, 1), params(1, 1, 0), params(math.MinInt, 1, 1),
		params(1, 1, math.MaxInt), params(math.MaxInt, math.MaxInt, math.MaxInt), params(1<<32+1, 1<<32+1, 1<<32+1),
		params(1, 1, 1<<32+1),
	}
}

// someImages are of many sizes, with chunks that are alike and such that are not.
func someImages() [][]byte {
	l := [][]byte{nil, {}, []byte("abcde"), []byte("the quick brown fox jumps over the lazy dog")}
	for n := 1; n < 40; n++ {
		l = append(l, sample(n), make([]byte, n))
	}
	for _, n := range []int{255, 256, 257, 1000, 4095, 4096, 4097, 9000} {
		l = append(l, sample(n), make([]byte, n), bytes.Repeat(sample(16), n/16))
	}
	return l
}

// someMay are indexes that may be, at the edges of what may.
func someMay() []index.Index {
	return []index.Index{
		{Params: params(1, 1, 1)},
		{Params: params(1, 1, 1), Items: []api.Item{}},
		{Params: params(4096, 4096, 4096), Image: nameOf(7)},
		{Params: params(1, 1, 1), Items: []api.Item{{Size: 1}}},
		of(params(2, 4, 9), 2), of(params(2, 4, 9), 1), of(params(2, 4, 9), 9), of(params(2, 4, 9), 9, 2, 1), of(params(2, 4, 9), 2, 9, 9),
		of(params(9, 9, 9), 9, 9, 9), of(params(9, 9, 9), 9, 9, 1),
		of(params(4096, 4096, 4096), 1), of(params(4096, 4096, 4096), 4096), of(params(4096, 4096, 4096), 4096, 1),
		of(params(4096, 4096, 4096), times(16, 4096)...),
		of(params(1, 1, 4096), times(15, 4096, 4095, 1)...),
		of(params(1, 1, 1), times(4096, 1)...),
		of(params(16, 16, 16), times(4096, 16)...),
		of(params(1, 1, 4096), times(4080, 1, times(15, 4000, 1)...)...),
		{Params: params(1, 2, 3), Items: []api.Item{{Name: nameOf(1), Size: 2}, {Name: nameOf(1), Size: 2}, {Name: nameOf(1), Size: 3}}}, // one name, whatever the sizes
	}
}

// someMayNot are indexes that may not be, by one thing each, or by more.
func someMayNot() []index.Index {
	p := params(2, 4, 9)
	l := []index.Index{
		of(p, 1, 2), of(p, 2, 1, 2), of(p, 1, 1), of(p, 2, 2, 1, 1), // but the last one less than Min
		of(p, 10), of(p, 10, 2), of(p, 2, 10), of(p, 2, 10, 2), of(p, 9, 9, 9, 4097),
		of(p, 0), of(p, 2, 0), of(p, 0, 2), of(p, -1), of(p, 2, -1), of(p, -2, 2), of(p, 2, -2, 2),
		of(p, math.MaxInt), of(p, math.MinInt), of(p, math.MaxInt, math.MaxInt, 2), of(p, 2, math.MinInt, math.MinInt, 2),
		of(p, 1<<32+2), of(p, 1<<32+2, 2), of(p, 2, 1<<32), of(params(1, 1, 4096), 1<<32+1),
		of(params(1, 1, 1), times(4097, 1)...), of(params(1, 1, 1), times(5000, 1)...), of(p, times(4097, 2)...), of(p, times(4096, 2, 1)...),
		of(params(4096, 4096, 4096), times(17, 4096)...), of(params(4096, 4096, 4096), times(16, 4096, 1)...),
		of(params(1, 1, 4096), times(15, 4096, 4095, 2)...), of(params(1, 1, 4096), times(4096, 4096)...),
		of(params(16, 16, 17), times(4095, 16, 17)...), of(params(15, 16, 17), times(4096, 17)...),
	}
	for _, q := range paramsThatMayNotBe() {
		l = append(l, index.Index{Params: q}, of(q, 1), of(q, 4), of(q, 4, 4, 4), of(q, q.Min, q.Min), of(q, q.Max))
	}
	return l
}

// P11.1: Of.

func TestOfByTheWords(t *testing.T) {
	for _, p := range somePar() {
		for _, image := range someImages() {
			items, _ := cut.Items(image, p)
			x, e := index.Of(image, p)
			if len(items) > 4096 {
				if e != api.ErrRange || !isZero(x) {
					t.Errorf("Of(%d bytes, %v): %d items, %v, want ErrRange", len(image), p, len(x.Items), e)
				}
				continue
			}
			want := index.Index{Params: p, Image: sha256.Sum256(image), Items: items}
			if e != api.OK || !sameByTheWords(x, want) {
				t.Errorf("Of(%d bytes, %v) = %v, %v, want %v", len(image), p, x, e, want)
			}
		}
	}
}

func TestOfFewBytes(t *testing.T) {
	x, e := index.Of([]byte("abcde"), params(2, 2, 2))
	want := []api.Item{{Name: sha256.Sum256([]byte("ab")), Size: 2}, {Name: sha256.Sum256([]byte("cd")), Size: 2}, {Name: sha256.Sum256([]byte("e")), Size: 1}}
	if e != api.OK || !slices.Equal(x.Items, want) {
		t.Errorf("Of(abcde) = %v, %v", x, e)
	}
	if hex.EncodeToString(x.Image[:4]) != "36bbe50e" || x.Min != 2 || x.Avg != 2 || x.Max != 2 {
		t.Errorf("Of(abcde): %x, %v", x.Image, x.Params)
	}
	x, e = index.Of(nil, params(1, 4, 9))
	if e != api.OK || len(x.Items) != 0 || hex.EncodeToString(x.Image[:4]) != "e3b0c442" || x.Params != params(1, 4, 9) {
		t.Errorf("Of(no bytes) = %v, %v", x, e)
	}
}

func TestOfAtItsLimits(t *testing.T) {
	for _, x := range []struct {
		size  int
		p     api.Params
		items int
		e     api.Errno
	}{
		{65536, params(4096, 4096, 4096), 16, api.OK},
		{65535, params(4096, 4096, 4096), 16, api.OK},
		{65537, params(4096, 4096, 4096), 0, api.ErrRange}, // bytes, not items
		{1 << 20, params(4096, 4096, 4096), 0, api.ErrRange},
		{4096, params(1, 1, 1), 4096, api.OK},
		{4097, params(1, 1, 1), 0, api.ErrRange}, // items, not bytes
		{4097, params(1, 1, 4096), 0, api.ErrRange},
		{8192, params(2, 2, 2), 4096, api.OK},
		{8191, params(2, 2, 2), 4096, api.OK},
		{8193, params(2, 2, 2), 0, api.ErrRange}, // the last item has one byte
		{65536, params(16, 16, 16), 4096, api.OK},
		{65536, params(15, 15, 15), 0, api.ErrRange},
		{65536, params(1, 1, 1), 0, api.ErrRange}, // 2^16 items
		{65537, params(1, 1, 1), 0, api.ErrRange}, // both
		{65537, params(0, 1, 1), 0, api.ErrArg},   // told ahead of the bytes
		{65537, params(1, 4096, 4097), 0, api.ErrArg},
		{4097, params(1, 1, 0), 0, api.ErrArg},
	} {
		for what, image := range map[string][]byte{"sample": sample(x.size), "noughts": make([]byte, x.size)} {
			if x.p.Min < x.p.Max && x.e == api.OK {
				t.Fatal("the bytes would say how many items")
			}
			got, e := index.Of(image, x.p)
			if e != x.e || len(got.Items) != x.items {
				t.Errorf("Of(%s of %d, %v): %d items, %v, want %d, %v", what, x.size, x.p, len(got.Items), e, x.items, x.e)
			}
			if e != api.OK && !isZero(got) {
				t.Errorf("Of(%s of %d, %v): beside %v: %v, %x, %d items", what, x.size, x.p, e, got.Params, got.Image, len(got.Items))
			}
		}
	}
}

func TestOfParamsThatMayNotBe(t *testing.T) {
	for _, p := range paramsThatMayNotBe() {
		for _, image := range [][]byte{nil, {}, []byte("a"), sample(100), make([]byte, 65537)} {
			if x, e := index.Of(image, p); e != api.ErrArg || !isZero(x) {
				t.Errorf("Of(%d bytes, %v) = %v, %v, want ErrArg", len(image), p, x, e)
			}
		}
	}
}

// P11.1: May and Total.

func TestMay(t *testing.T) {
	for i, x := range someMay() {
		if !mayByTheWords(x) {
			t.Fatalf("number %d of the test may not be", i)
		}
		if !index.May(x) {
			t.Errorf("number %d (%v, %d items) may not be", i, x.Params, len(x.Items))
		}
	}
}

func TestMayNot(t *testing.T) {
	for i, x := range someMayNot() {
		if mayByTheWords(x) {
			t.Fatalf("number %d of the test may be", i)
		}
		if index.May(x) {
			t.Errorf("number %d (%v, %d items) may be", i, x.Params, len(x.Items))
		}
	}
}

// All few sizes about Min and Max, at the end and ahead of it.
func TestMayOfAllFewSizes(t *testing.T) {
	may := map[bool]int{}
	hold := func(x index.Index) {
		want := mayByTheWords(x)
		may[want]++
		if got := index.May(x); got != want {
			t.Errorf("May(%v of %v) = %v", x.Items, x.Params, got)
		}
	}
	for _, p := range []api.Params{params(1, 1, 1), params(1, 2, 3), params(2, 2, 2), params(3, 3, 5)} {
		for a := -1; a < 7; a++ {
			hold(of(p, a))
			for b := -1; b < 7; b++ {
				hold(of(p, a, b))
				for c := -1; c < 7; c++ {
					hold(of(p, a, b, c))
				}
			}
		}
	}
	if may[true] < 50 || may[false] < 50 {
		t.Error(may, "the test tells little")
	}
}

func TestMayHangsOnNoName(t *testing.T) {
	x := of(params(2, 4, 9), 3, 4, 5)
	for i := range x.Items {
		x.Items[i].Name = api.Digest{}
	}
	x.Image = api.Digest{}
	if !index.May(x) {
		t.Error("names of noughts")
	}
}

func TestTotal(t *testing.T) {
	for _, x := range []struct {
		x    index.Index
		want int
	}{
		{index.Index{Params: params(1, 1, 1)}, 0},
		{of(params(1, 1, 1), 1), 1},
		{of(params(2, 4, 9), 2, 9, 1), 12},
		{of(params(1, 1, 1), times(4096, 1)...), 4096},
		{of(params(4096, 4096, 4096), times(16, 4096)...), 65536},
		{of(params(16, 16, 16), times(4096, 16)...), 65536},
		{of(params(1, 1, 4096), times(15, 4096, 4095, 1)...), 65536},
		{index.Index{Params: params(1, 2, 3), Items: []api.Item{{Size: 2}, {Size: 2}, {Size: 2}}}, 6}, // of one name
	} {
		if got := index.Total(x.x); got != x.want {
			t.Errorf("Total of %d items = %d, want %d", len(x.x.Items), got, x.want)
		}
	}
}

// P11.2: Write.

// Bytes that another hand has made.
func TestKnownBytes(t *testing.T) {
	for _, x := range []struct {
		image []byte
		p     api.Params
		want  string
	}{
		{nil, params(1, 4, 9), "4c544931" + "01000000" + "04000000" + "09000000" +
			"e3b0c44298fc1c149afbf4c8996fb92427ae41e4649b934ca495991b7852b855" + "00000000" + "fce83aa7"},
		{[]byte("abcde"), params(2, 2, 2), "4c544931" + "02000000" + "02000000" + "02000000" +
			"36bbe50ed96841d10443bcb670d6554f0a34b761be67ec9c4a8ad2c0c44ca42c" + "03000000" +
			"fb8e20fc2e4c3f248c60c39bd652f3c1347298bb977b8b4d5903b85055620603" + "02000000" +
			"21e721c35a5823fdb452fa2f9f0a612c74fb952e06927489c6b27a43b817bed4" + "02000000" +
			"3f79bb7b435b05321651daefd374cdc681dc06faa65e374e38337b88ca046dea" + "01000000" + "d66994f5"},
	} {
		y, e := index.Of(x.image, x.p)
		if e != api.OK {
			t.Fatal(e)
		}
		b, e := index.Write(y)
		if got := hex.EncodeToString(b); e != api.OK || got != x.want {
			t.Errorf("Write(of %q) = %s, %v, want %s", x.image, got, e, x.want)
		}
		z, e := index.Read(b)
		if e != api.OK || !sameByTheWords(z, y) {
			t.Errorf("Read of %q's = %v, %v", x.image, z, e)
		}
	}
}

func TestTheIndexOfNoBytesHas56(t *testing.T) {
	x, _ := index.Of(nil, params(258, 300, 4096))
	if b, e := index.Write(x); e != api.OK || len(b) != 56 || string(b[:16]) != "LTI1\x02\x01\x00\x00\x2c\x01\x00\x00\x00\x10\x00\x00" {
		t.Errorf("Write = %q, %v", b, e)
	}
}

func TestWriteByTheWords(t *testing.T) {
	for i, x := range someMay() {
		want := checked(bodyByTheWords(t, x))
		if b, e := index.Write(x); e != api.OK || !bytes.Equal(b, want) {
			t.Errorf("number %d: %d bytes, %v, want %d", i, len(b), e, len(want))
		}
	}
}

func TestWriteRefusesWhatMayNotBe(t *testing.T) {
	for i, x := range someMayNot() {
		if b, e := index.Write(x); e != api.ErrArg || len(b) != 0 {
			t.Errorf("number %d (%v): %d bytes, %v, want ErrArg", i, x.Params, len(b), e)
		}
	}
}

// P11.2: Read.

// hold holds Read of bytes against the words; it tells what these say.
func hold(t *testing.T, what string, b []byte) api.Errno {
	t.Helper()
	want, wantE := readByTheWords(b)
	x, e := index.Read(b)
	if e != wantE || !sameByTheWords(x, want) {
		t.Errorf("%s: Read = %v, %d items, %v, want %v, %d items, %v", what, x.Params, len(x.Items), e, want.Params, len(want.Items), wantE)
	}
	return wantE
}

// few are indexes whose bytes are few: each can be spoilt in each way.
func few() []index.Index {
	return []index.Index{{Params: params(1, 4, 9)}, of(params(2, 4, 9), 3), of(params(1, 1, 4096), 4096, 256, 1), of(params(2, 2, 2), 2, 2, 1)}
}

// Each byte another one, with a check that fits: what is told by it may be, or may not.
func TestReadOfEachByteChanged(t *testing.T) {
	told := map[api.Errno]int{}
	for _, x := range few() {
		body := bodyByTheWords(t, x)
		for i := range body {
			for c := range 256 {
				other := bytes.Clone(body)
				other[i] = byte(c)
				told[hold(t, "byte changed", checked(other))]++
			}
		}
	}
	if told[api.OK] < 1000 || told[api.ErrForm] < 1000 || told[api.ErrSum] != 0 {
		t.Error(told, "the test tells little")
	}
}

// Each bit another one, the check as it was.
func TestReadTellsASumThatIsNot(t *testing.T) {
	for _, x := range few() {
		b := checked(bodyByTheWords(t, x))
		for i := range b {
			for bit := range 8 {
				other := bytes.Clone(b)
				other[i] ^= 1 << bit
				if y, e := index.Read(other); e != api.ErrSum || !isZero(y) {
					t.Errorf("byte %d, bit %d: Read = %v, %v, want ErrSum", i, bit, y, e)
				}
			}
		}
	}
}

// Bytes that end at each place, and such with more behind, with and without a check that fits.
func TestReadOfOtherNumbersOfBytes(t *testing.T) {
	for _, x := range few() {
		body := bodyByTheWords(t, x)
		for n := range len(body) {
			if y, e := index.Read(checked(body[:n])); e != api.ErrForm || !isZero(y) {
				t.Errorf("%d of %d bytes: Read = %v, %v, want ErrForm", n, len(body), y, e)
			}
		}
		whole := checked(body)
		for n := range len(whole) {
			want := api.ErrSum
			if n < 4 {
				want = api.ErrForm
			}
			if y, e := index.Read(whole[:n]); e != want || !isZero(y) {
				t.Errorf("%d of all %d bytes: Read = %v, %v, want %v", n, len(whole), y, e, want)
			}
		}
		for n := 1; n < 80; n++ {
			for what, more := range map[string][]byte{"noughts": make([]byte, n), "sample": sample(n), "itself": body[:min(n, len(body))]} {
				hold(t, what+" behind", checked(slices.Concat(body, more)))
				hold(t, what+" ahead", checked(slices.Concat(more, body)))
				hold(t, what+" behind all", slices.Concat(whole, more))
			}
		}
	}
}

// A check of no bytes, and bytes whose last four are by chance their check, are no index either.
func TestReadOfBytesThatAreNone(t *testing.T) {
	for n := range 4 {
		for _, b := range [][]byte{make([]byte, n), sample(n), []byte("LTI1")[:n]} {
			if x, e := index.Read(b); e != api.ErrForm || !isZero(x) {
				t.Errorf("Read(%q) = %v, %v, want ErrForm", b, x, e)
			}
		}
	}
	if x, e := index.Read(nil); e != api.ErrForm || !isZero(x) {
		t.Errorf("Read(nil) = %v, %v, want ErrForm", x, e)
	}
	for _, b := range [][]byte{nil, []byte("LTI1"), []byte("LTI2"), make([]byte, 52), sample(52), sample(500), []byte(strings.Repeat("LTI1", 13))} {
		if x, e := index.Read(checked(b)); e != api.ErrForm || !isZero(x) {
			t.Errorf("Read(%q and its check) = %v, %v, want ErrForm", b, x, e)
		}
		if x, e := index.Read(append(slices.Clip(b), 1, 2, 3, 4)); e != api.ErrSum || !isZero(x) {
			t.Errorf("Read(%q and no check) = %v, %v, want ErrSum", b, x, e)
		}
	}
}

// The number of items may tell whatever four bytes can: also what comes to the bytes' number again by 2^32.
func TestReadOfACountThatIsNot(t *testing.T) {
	for _, n := range []int{0, 1, 3} {
		body := bodyByTheWords(t, of(params(1, 4, 9), times(n, 4)...))
		counts := []uint32{uint32(n) + 1, uint32(n) + 1<<30, uint32(n) + 1<<31, uint32(n) + 3<<30, uint32(n) + 1<<16, uint32(n) + 1<<24, math.MaxUint32, math.MaxInt32, 1 << 31, 4096, 4097}
		for c := range uint32(n) {
			counts = append(counts, c)
		}
		for _, c := range counts {
			binary.LittleEndian.PutUint32(body[48:], c)
			if x, e := index.Read(checked(body)); e != api.ErrForm || !isZero(x) {
				t.Errorf("%d items, %d told: Read = %v, %v, want ErrForm", n, c, x, e)
			}
		}
	}
}

// What is laid as an index is, but may not be, is none.
func TestReadOfWhatMayNotBe(t *testing.T) {
	laid := 0
	for i, x := range someMayNot() {
		b := checked(bodyByTheWords(t, x))
		if beyond := slices.ContainsFunc(append(x.Items, api.Item{Size: x.Min}, api.Item{Size: x.Avg}, api.Item{Size: x.Max}), func(it api.Item) bool {
			return it.Size < 0 || it.Size > math.MaxUint32
		}); beyond {
			continue // four bytes do not tell it
		}
		laid++
		if y, e := index.Read(b); e != api.ErrForm || !isZero(y) {
			t.Errorf("number %d (%v, %d items): Read = %v, %v, want ErrForm", i, x.Params, len(x.Items), y.Params, e)
		}
	}
	if laid < 40 {
		t.Error(laid, "were laid: the test tells little")
	}
}

func TestReadOfMoreItemsThanMay(t *testing.T) {
	for _, n := range []int{4095, 4096, 4097, 8192, 70000} {
		want := api.OK
		if n > 4096 {
			want = api.ErrForm
		}
		if got := hold(t, "many items", checked(bodyByTheWords(t, of(params(1, 1, 1), times(n, 1)...)))); got != want {
			t.Errorf("%d items: %v by the words", n, got)
		}
	}
}

// P11.3: Names.

func TestNames(t *testing.T) {
	d := func(first, last byte) api.Digest {
		var d api.Digest
		d[0], d[31] = first, last
		return d
	}
	named := func(l ...api.Digest) index.Index {
		var x index.Index
		for _, name := range l {
			x.Items = append(x.Items, api.Item{Name: name, Size: 1})
		}
		return x
	}
	for i, x := range []struct {
		l    []index.Index
		want []api.Digest
	}{
		{nil, nil},
		{[]index.Index{{}}, nil},
		{[]index.Index{{}, {Items: []api.Item{}}, {Image: d(1, 1)}}, nil}, // an image's digest is none of its items'
		{[]index.Index{named(d(1, 0))}, []api.Digest{d(1, 0)}},
		{[]index.Index{named(d(0, 0))}, []api.Digest{d(0, 0)}},
		{[]index.Index{named(d(1, 0), d(1, 0))}, []api.Digest{d(1, 0)}},
		{[]index.Index{named(d(1, 0), d(2, 0), d(1, 0))}, []api.Digest{d(1, 0), d(2, 0)}},
		{[]index.Index{named(d(3, 0), d(2, 0), d(1, 0))}, []api.Digest{d(1, 0), d(2, 0), d(3, 0)}},
		{[]index.Index{named(d(1, 9), d(2, 3), d(1, 8), d(255, 0), d(127, 0), d(128, 0), d(0, 255))}, []api.Digest{d(0, 255), d(1, 8), d(1, 9), d(2, 3), d(127, 0), d(128, 0), d(255, 0)}},
		{[]index.Index{named(d(3, 0), d(1, 0)), {}, named(d(2, 0), d(3, 0))}, []api.Digest{d(1, 0), d(2, 0), d(3, 0)}},
		{[]index.Index{named(d(3, 0)), named(d(2, 0)), named(d(1, 0))}, []api.Digest{d(1, 0), d(2, 0), d(3, 0)}},
		{[]index.Index{named(d(5, 0), d(0, 0)), named(d(5, 0), d(0, 0))}, []api.Digest{d(0, 0), d(5, 0)}},
		{[]index.Index{{Items: []api.Item{{Name: d(2, 0), Size: 1}, {Name: d(2, 0), Size: 2}}}, {Items: []api.Item{{Name: d(2, 0), Size: 3}}}}, []api.Digest{d(2, 0)}}, // sizes do not count
	} {
		if got := index.Names(x.l...); !slices.Equal(got, x.want) {
			t.Errorf("number %d: %x, want %x", i, got, x.want)
		}
	}
}

// Two digests stand by the first byte in which they are not the same.
func TestNamesStandByEachByte(t *testing.T) {
	for i := range api.Size {
		var a, b api.Digest
		a[i], b[i] = 127, 128
		for j := i + 1; j < api.Size; j++ { // what stands behind must not count
			a[j] = 255
		}
		x := index.Index{Items: []api.Item{{Name: b, Size: 1}, {Name: a, Size: 2}}}
		if got := index.Names(x); !slices.Equal(got, []api.Digest{a, b}) {
			t.Errorf("byte %d: %x", i, got)
		}
	}
}

func TestNamesOfMany(t *testing.T) {
	var l []index.Index
	texts := map[string]bool{}
	for i := range 5 {
		x := index.Index{Params: params(1, 1, 1)}
		for j := range 4096 {
			name := nameOf((i*1000 + j*7) % 9000)
			texts[string(name[:])] = true
			x.Items = append(x.Items, api.Item{Name: name, Size: 1})
		}
		l = append(l, x)
	}
	var want []string
	for s := range texts {
		want = append(want, s)
	}
	slices.Sort(want)
	got := index.Names(l...)
	if len(got) != len(want) || len(want) < 5000 {
		t.Fatalf("%d names, want %d", len(got), len(want))
	}
	for i, d := range got {
		if string(d[:]) != want[i] {
			t.Fatalf("name %d: %x, want %x", i, d, want[i])
		}
	}
}

// P11.3: Check.

func TestCheck(t *testing.T) {
	images := someImages()
	for _, image := range images {
		x, e := index.Of(image, params(3, 8, 16))
		if e != api.OK {
			t.Fatal(e)
		}
		for _, other := range images {
			want := api.ErrSum
			if bytes.Equal(image, other) {
				want = api.OK
			}
			if got := index.Check(x, other); got != want {
				t.Errorf("Check(of %d bytes, %d bytes) = %v, want %v", len(image), len(other), got, want)
			}
		}
		for i := 0; i < len(image); i += 1 + len(image)/300 {
			other := bytes.Clone(image)
			other[i] ^= 1
			if got := index.Check(x, other); got != api.ErrSum {
				t.Errorf("Check(of %d bytes, byte %d another) = %v", len(image), i, got)
			}
		}
	}
}

// Only the image's digest counts, of the whole of it.
func TestCheckHangsOnTheDigestAlone(t *testing.T) {
	image := []byte("abcde")
	x := index.Index{Image: sha256.Sum256(image)}
	for _, items := range [][]api.Item{nil, {{Size: 1}}, sized(4096, 4096), {{Size: -1}}} {
		x.Items = items
		if got := index.Check(x, image); got != api.OK {
			t.Errorf("Check, of items %v = %v", items, got)
		}
	}
	y, _ := index.Of(image, params(2, 2, 2))
	for i := range y.Image {
		z := y
		z.Image[i] ^= 128
		if got := index.Check(z, image); got != api.ErrSum {
			t.Errorf("Check, byte %d of the digest another = %v", i, got)
		}
	}
	if got := index.Check(index.Index{}, nil); got != api.ErrSum {
		t.Errorf("Check(of nothing, no bytes) = %v", got)
	}
	big := make([]byte, 70000) // more than an image may have
	if got := index.Check(index.Index{Image: sha256.Sum256(big)}, big); got != api.OK {
		t.Errorf("Check of %d bytes = %v", len(big), got)
	}
}

// P11.3: Same.

func TestSame(t *testing.T) {
	one := of(params(2, 4, 9), 3, 4, 5)
	change := func(f func(x *index.Index)) index.Index {
		x := one
		x.Items = slices.Clone(one.Items)
		f(&x)
		return x
	}
	l := []index.Index{
		one,
		{}, {Params: one.Params}, {Image: one.Image}, {Items: one.Items}, {Params: one.Params, Image: one.Image},
		change(func(x *index.Index) { x.Min++ }),
		change(func(x *index.Index) { x.Avg++ }),
		change(func(x *index.Index) { x.Max++ }),
		change(func(x *index.Index) { x.Min += 1 << 32 }),
		change(func(x *index.Index) { x.Image[0]++ }),
		change(func(x *index.Index) { x.Image[31]++ }),
		change(func(x *index.Index) { x.Items = x.Items[:2] }),
		change(func(x *index.Index) { x.Items = x.Items[1:] }),
		change(func(x *index.Index) { x.Items = append(x.Items, api.Item{}) }),
		change(func(x *index.Index) { x.Items[0], x.Items[1] = x.Items[1], x.Items[0] }),
	}
	for i := range one.Items {
		l = append(l,
			change(func(x *index.Index) { x.Items[i].Size++ }),
			change(func(x *index.Index) { x.Items[i].Name[0] ^= 1 }),
			change(func(x *index.Index) { x.Items[i].Name[31] ^= 1 }),
			change(func(x *index.Index) { x.Items[i] = api.Item{} }))
	}
	for i, a := range l {
		for j, b := range l {
			b.Items = slices.Clone(b.Items) // what is the same need not be the same memory
			if got := index.Same(a, b); got != (i == j) {
				t.Errorf("Same of numbers %d and %d = %v", i, j, got)
			}
		}
	}
}

func TestSameOfNoItems(t *testing.T) {
	p := params(1, 4, 9)
	for _, a := range [][]api.Item{nil, {}, make([]api.Item, 0, 9)} {
		for _, b := range [][]api.Item{nil, {}, make([]api.Item, 0, 9)} {
			if !index.Same(index.Index{Params: p, Items: a}, index.Index{Params: p, Items: b}) {
				t.Errorf("%#v and %#v are not the same", a, b)
			}
		}
	}
}

// P11.4.

func TestWhatIsWrittenIsReadAsItWas(t *testing.T) {
	for i, x := range someMay() {
		b, e := index.Write(x)
		if e != api.OK {
			t.Errorf("number %d: %v", i, e)
		}
		y, e := index.Read(b)
		if e != api.OK || !sameByTheWords(x, y) || !index.Same(x, y) {
			t.Errorf("number %d is read as %v, %d items, %v", i, y.Params, len(y.Items), e)
		}
		if again, e := index.Write(y); e != api.OK || !bytes.Equal(again, b) {
			t.Errorf("number %d is written otherwise again, %v", i, e)
		}
	}
}

func TestTheIndexOfAnImage(t *testing.T) {
	great := [][]byte{sample(65536), make([]byte, 65536), sample(65535), bytes.Repeat(sample(64), 1024)}
	held := 0
	for _, p := range somePar() {
		for _, image := range append(someImages(), great...) {
			x, e := index.Of(image, p)
			if e != api.OK {
				continue
			}
			held++
			if !index.May(x) || !mayByTheWords(x) {
				t.Errorf("%d bytes, %v: it may not be", len(image), p)
			}
			if got := index.Total(x); got != len(image) {
				t.Errorf("%d bytes, %v: Total = %d", len(image), p, got)
			}
			if index.Check(x, image) != api.OK {
				t.Errorf("%d bytes, %v: it is not its image's", len(image), p)
			}
			b, e := index.Write(x)
			if y, e2 := index.Read(b); e != api.OK || e2 != api.OK || !sameByTheWords(x, y) {
				t.Errorf("%d bytes, %v: it is read otherwise, %v, %v", len(image), p, e, e2)
			}
		}
	}
	if held < 1000 {
		t.Error(held, "indexes: the test tells little")
	}
}

// The rules that hold everywhere.

// Parameters are an index's own: what asks for them there may also ask the Params.
func TestParametersAreEmbedded(t *testing.T) {
	var x index.Index
	x.Min, x.Avg, x.Max = 2, 4, 9
	if x.Params != params(2, 4, 9) {
		t.Error(x.Params)
	}
}

// roomy is a copy of items with room behind it, in which something stands.
func roomy(items []api.Item) (whole, part []api.Item) {
	whole = append(slices.Clone(items), api.Item{Name: nameOf(100), Size: 77}, api.Item{Name: nameOf(101), Size: 78})
	return whole, whole[:len(items)]
}

func TestArgumentsStayAsTheyWere(t *testing.T) {
	p := params(2, 4, 9)
	image := sample(100)
	before := bytes.Clone(image)
	x, _ := index.Of(image[:60], p)
	index.Check(x, image[:60])
	if !bytes.Equal(image, before) {
		t.Error("Of or Check changed the image")
	}
	whole, part := roomy(x.Items)
	kept := slices.Clone(whole)
	y := index.Index{Params: p, Image: x.Image, Items: part}
	z := index.Index{Params: p, Items: slices.Clone(sized(9, 8, 7))}
	l := make([]index.Index, 3, 5)
	l[0], l[1] = z, y
	room := l[:5]
	room[3], room[4] = y, z
	index.May(y)
	index.Total(y)
	index.Same(y, x)
	b, _ := index.Write(y)
	index.Names(l...)
	if !slices.Equal(whole, kept) {
		t.Error("items were changed, or the room behind them")
	}
	for i, want := range []index.Index{z, y, {}, y, z} {
		if !sameByTheWords(room[i], want) {
			t.Errorf("Names changed index %d that it was handed", i)
		}
	}
	if !slices.Equal(z.Items, sized(9, 8, 7)) {
		t.Error("Names changed the row of items")
	}
	bytesRoom := append(bytes.Clone(b), sample(50)...)
	bytesKept := bytes.Clone(bytesRoom)
	if _, e := index.Read(bytesRoom[:len(b)]); e != api.OK {
		t.Error(e)
	}
	if !bytes.Equal(bytesRoom, bytesKept) {
		t.Error("Read changed the bytes")
	}
}

// Whoever changes an answer changes nothing else, and an answer stays when its argument is changed.
func TestAnswersAreNewMemory(t *testing.T) {
	p := params(2, 4, 9)
	image := sample(60)
	x, _ := index.Of(image, p)
	y, _ := index.Of(image, p)
	want := slices.Clone(x.Items)
	for i := range y.Items {
		y.Items[i] = api.Item{}
	}
	clear(image)
	if !slices.Equal(x.Items, want) {
		t.Error("Of: two answers share memory, or one and the image")
	}
	b, _ := index.Write(x)
	written := bytes.Clone(b)
	c, _ := index.Write(x)
	clear(c)
	r, _ := index.Read(b)
	s, _ := index.Read(b)
	clear(s.Items)
	if !bytes.Equal(b, written) {
		t.Error("Write: two answers share memory, or one and what is read of it")
	}
	clear(b)
	if !sameByTheWords(r, x) {
		t.Error("Read: two answers share memory, or one and the bytes")
	}
	names := index.Names(x)
	told := slices.Clone(names)
	clear(index.Names(x))
	clear(x.Items)
	if !slices.Equal(names, told) {
		t.Error("Names: two answers share memory, or one and the items")
	}
}

// What may not be asked of an index ends all the same.
func TestNothingPanics(t *testing.T) {
	odd := append(someMayNot(), of(params(1, 1, 1), math.MaxInt, math.MaxInt), index.Index{Items: []api.Item{{}}})
	for _, x := range odd {
		index.Total(x)
		index.Names(x, x)
		index.Check(x, nil)
		index.Check(x, sample(100))
		if !index.Same(x, x) {
			t.Error("one is not the same as itself")
		}
	}
}
