package frame_test

import (
	"bytes"
	"encoding/binary"
	"hash/crc32"
	"math"
	"slices"
	"strings"
	"testing"

	"lighterage/api"
	"lighterage/frame"
	"lighterage/lz"
)

var table = crc32.MakeTable(crc32.Castagnoli)

// laid is a frame of these parts, whether they are of each other or not.
func laid(first, second byte, number uint32, between string, sum uint32) []byte {
	f := binary.LittleEndian.AppendUint32([]byte{first, second}, number)
	return binary.LittleEndian.AppendUint32(append(f, between...), sum)
}

// check is a check that another hand has made.
func check(b string) uint32 { return crc32.Checksum([]byte(b), table) }

// plain is a frame of b, not packed.
func plain(b string) []byte { return laid(76, 0, uint32(len(b)), b, check(b)) }

// packed is a frame of b, whose tokens p is said to be.
func packed(p, b string) []byte { return laid(76, 1, uint32(len(b)), p, check(b)) }

// sealByTheWords is a frame as the chapter tells it.
func sealByTheWords(b []byte) []byte {
	if p := lz.Pack(b); len(p) < len(b) {
		return packed(string(p), string(b))
	}
	return plain(string(b))
}

// openByTheWords goes through the errors of the promise in their row.
func openByTheWords(f []byte, most int) ([]byte, api.Errno) {
	if len(f) < 10 || f[0] != 76 || f[1] != 0 && f[1] != 1 {
		return nil, api.ErrForm
	}
	number, between := int(binary.LittleEndian.Uint32(f[2:])), f[6:len(f)-4]
	if number > most {
		return nil, api.ErrRange
	}
	b := between
	if f[1] == 1 {
		var e api.Errno
		if b, e = lz.Unpack(between, number); e != api.OK {
			return nil, api.ErrForm
		}
	}
	if len(b) != number {
		return nil, api.ErrForm
	}
	if check(string(b)) != binary.LittleEndian.Uint32(f[len(f)-4:]) {
		return nil, api.ErrSum
	}
	return b, api.OK
}

// sample is n bytes out of kinds; of 256 of them, hardly any are packed into fewer.
func sample(n, kinds int) []byte {
	b := make([]byte, n)
	x := uint32(n)*256 + uint32(kinds)
	for i := range b {
		x = x*1664525 + 1013904223
		b[i] = byte(int(x>>16&0xFFFF) * kinds >> 16)
	}
	return b
}

// inputs are bytes of many kinds, at many sizes.
func inputs() [][]byte {
	l := [][]byte{nil, {}}
	for n := range 150 {
		l = append(l, make([]byte, n), sample(n, 2), sample(n, 4), sample(n, 256))
	}
	for _, n := range []int{255, 256, 257, 1000, 4095, 4096, 4097, 65535, 65536, 65537} {
		l = append(l, make([]byte, n), bytes.Repeat([]byte{255}, n), sample(n, 2), sample(n, 8), sample(n, 256))
	}
	return l
}

// opens tells that f is opened as want, whatever most is from their number on.
func opens(t *testing.T, f []byte, want string) {
	t.Helper()
	for _, most := range []int{len(want), len(want) + 1, 1 << 20, math.MaxInt} {
		if got, e := frame.Open(f, most); string(got) != want || e != api.OK {
			t.Errorf("Open(%.40q, %d) = %.40q, %v, want %.40q", f, most, got, e, want)
		}
	}
}

func refuses(t *testing.T, f []byte, most int, want api.Errno) {
	t.Helper()
	if got, e := frame.Open(f, most); len(got) != 0 || e != want {
		t.Errorf("Open(%.40q, %d) = %.40q, %v, want %v", f, most, got, e, want)
	}
}

// P6.1.

func TestSealOfKnownBytes(t *testing.T) {
	for _, x := range []struct{ b, want string }{
		{"", "L\x00\x00\x00\x00\x00\x00\x00\x00\x00"},
		{"a", "L\x00\x01\x00\x00\x00a\x30\x43\xd0\xc1"},
		{"123456789", "L\x00\x09\x00\x00\x00123456789\x83\x92\x06\xe3"},
		{strings.Repeat("\x00", 32), "L\x01\x20\x00\x00\x00\x00\x00\x9b\x00\x00\xaa\x36\x91\x8a"},
		{strings.Repeat("\xff", 32), "L\x01\x20\x00\x00\x00\x00\xff\x9b\x00\x00\x43\xab\xa8\x62"},
	} {
		if got := frame.Seal([]byte(x.b)); string(got) != x.want {
			t.Errorf("Seal(%q) = %q, want %q", x.b, got, x.want)
		}
	}
	if got := frame.Seal(nil); string(got) != "L"+strings.Repeat("\x00", 9) {
		t.Errorf("Seal(nil) = %q", got)
	}
}

// Bytes that are packed into as many, or into more, are kept as they are.
func TestSealPacksIntoFewerOnly(t *testing.T) {
	for _, x := range []struct {
		b, p   string // what is packed, and into what
		packed bool
	}{
		{"abcd", "\x03abcd", false},             // more by one
		{"aaaa", "\x03aaaa", false},             // more by one
		{"aaaaa", "\x00a\x80\x00\x00", false},   // as many
		{"aaaaaa", "\x00a\x81\x00\x00", true},   // fewer by one
		{"ababab", "\x01ab\x80\x01\x00", false}, // as many
		{"abababa", "\x01ab\x81\x01\x00", true}, // fewer by one
		{"abcdabcd", "\x03abcd\x80\x03\x00", false},
		{"abcdabcda", "\x03abcd\x81\x03\x00", true},
	} {
		if p := lz.Pack([]byte(x.b)); string(p) != x.p {
			t.Fatalf("%q is packed as %q", x.b, p)
		}
		want := plain(x.b)
		if x.packed {
			want = packed(x.p, x.b)
		}
		if got := frame.Seal([]byte(x.b)); !bytes.Equal(got, want) || frame.Packed(got) != x.packed {
			t.Errorf("Seal(%q) = %q, want %q", x.b, got, want)
		}
	}
}

func TestSealOfManyKinds(t *testing.T) {
	kinds := [2]int{}
	for _, b := range inputs() {
		want := sealByTheWords(b)
		kinds[want[1]]++
		if got := frame.Seal(b); !bytes.Equal(got, want) {
			t.Errorf("%d bytes (%.20q ..) are sealed otherwise", len(b), b)
		}
	}
	if kinds[0] < 100 || kinds[1] < 100 {
		t.Errorf("too few of a kind: %v", kinds)
	}
}

// The check is of the bytes as they are, packed or not.
func TestSealTellsTheCheckOfTheBytes(t *testing.T) {
	b := strings.Repeat("lighter ", 20)
	f := frame.Seal([]byte(b))
	if !frame.Packed(f) || binary.LittleEndian.Uint32(f[len(f)-4:]) != check(b) {
		t.Errorf("Seal(%q) = %q", b, f)
	}
}

func TestSealTellsEachByteOfTheNumber(t *testing.T) {
	for _, n := range []int{1, 255, 256, 0x0201, 0xFFFF, 0x10000, 0x030201, 0x1030201} {
		b := make([]byte, n)
		f := frame.Seal(b)
		if got := binary.LittleEndian.Uint32(f[2:]); int(got) != n {
			t.Errorf("of %d bytes: %d are told", n, got)
		}
		if got, e := frame.Open(f, n); e != api.OK || !bytes.Equal(got, b) {
			t.Errorf("of %d bytes: %d, %v", n, len(got), e)
		}
	}
}

// P6.2: Open.

func TestOpenOfKnownFrames(t *testing.T) {
	opens(t, []byte("L\x00\x00\x00\x00\x00\x00\x00\x00\x00"), "")
	opens(t, []byte("L\x00\x01\x00\x00\x00a\x30\x43\xd0\xc1"), "a")
	opens(t, []byte("L\x00\x09\x00\x00\x00123456789\x83\x92\x06\xe3"), "123456789")
	opens(t, []byte("L\x01\x20\x00\x00\x00\x00\x00\x9b\x00\x00\xaa\x36\x91\x8a"), strings.Repeat("\x00", 32))
}

// What a frame keeps is not held against what Seal would keep.
func TestOpenOfWhatIsPackedOtherwise(t *testing.T) {
	opens(t, packed("", ""), "")
	opens(t, packed("\x00a", "a"), "a")
	opens(t, packed("\x02abc", "abc"), "abc")                        // more than there are
	opens(t, packed("\x00a\x00b\x00c", "abc"), "abc")                // twice as many
	opens(t, packed("\x00a\x80\x00\x00", "aaaaa"), "aaaaa")          // as many
	opens(t, packed("\x07aaaaaaaa", "aaaaaaaa"), "aaaaaaaa")         // no match where there is one
	opens(t, packed("\x03aaaa\x80\x02\x00", "aaaaaaaa"), "aaaaaaaa") // not the least distance
	far := string(sample(128*9, 256))
	tokens := ""
	for piece := range slices.Chunk([]byte(far), 128) {
		tokens += "\x7f" + string(piece)
	}
	opens(t, packed(tokens+"\x84\x7f\x04", far+far[:8]), far+far[:8]) // further off than Pack looks
	opens(t, plain(strings.Repeat("a", 100)), strings.Repeat("a", 100))
}

func TestOpenRefusesFewerThanTenBytes(t *testing.T) {
	for _, f := range [][]byte{frame.Seal(nil), packed("", ""), plain("abc"), packed("\x02abc", "abc"), make([]byte, 20), laid(76, 0, math.MaxUint32, "", 0)} {
		for n := range 10 {
			for _, most := range []int{math.MinInt, -1, 0, 3, math.MaxInt} {
				refuses(t, f[:n:n], most, api.ErrForm)
				refuses(t, f[:n], most, api.ErrForm)
			}
		}
	}
	refuses(t, nil, 0, api.ErrForm)
}

// The form of the first two bytes is looked at ahead of all else.
func TestOpenOfEachFirstAndSecondByte(t *testing.T) {
	for c := range 256 {
		for way := range byte(2) {
			if c != 76 {
				refuses(t, laid(byte(c), way, 0, "", 0), 0, api.ErrForm)
				refuses(t, laid(byte(c), way, 9, "", 0), 0, api.ErrForm) // and the number is too great
				refuses(t, laid(byte(c), way, 0, "", 1), 0, api.ErrForm) // and the check is another one
			}
		}
		if c > 1 {
			refuses(t, laid(76, byte(c), 0, "", 0), 0, api.ErrForm)
			refuses(t, laid(76, byte(c), 9, "", 0), 0, api.ErrForm)
			refuses(t, laid(76, byte(c), 0, "", 1), 0, api.ErrForm)
			refuses(t, laid(76, byte(c), 3, "abc", check("abc")), 3, api.ErrForm)
		}
	}
}

func TestOpenRefusesMoreThanMost(t *testing.T) {
	for _, f := range [][]byte{plain("abc"), packed("\x02abc", "abc")} {
		for _, most := range []int{2, 1, 0, -1, -2, math.MinInt} {
			refuses(t, f, most, api.ErrRange)
		}
	}
	for _, f := range [][]byte{plain(""), packed("", "")} {
		for _, most := range []int{-1, -2, math.MinInt} {
			refuses(t, f, most, api.ErrRange)
		}
	}
	for _, n := range []uint32{4, 256, 1 << 16, 1 << 24, math.MaxInt32, 1 << 31, math.MaxUint32} {
		for way := range byte(2) {
			refuses(t, laid(76, way, n, "", 0), 3, api.ErrRange)
			refuses(t, laid(76, way, n, "", 0), int(n)-1, api.ErrRange)
		}
	}
}

// Range is told ahead of what stands between, and of the check.
func TestOpenTellsRangeFirst(t *testing.T) {
	for way := range byte(2) {
		refuses(t, laid(76, way, 4, "abc", check("abc")), 3, api.ErrRange)
		refuses(t, laid(76, way, 4, "\xff", check("abc")), 3, api.ErrRange)
		refuses(t, laid(76, way, 4, "\x03abcd", 7), 3, api.ErrRange)
		refuses(t, laid(76, way, 4, "abcd", 7), 3, api.ErrRange)
	}
}

func TestOpenRefusesAnotherNumberOfBytes(t *testing.T) {
	for n := range 20 {
		b := string(sample(n, 256))
		for told := range 20 {
			f := laid(76, 0, uint32(told), b, check(b))
			if told != n {
				refuses(t, f, 100, api.ErrForm)
				refuses(t, f, told, api.ErrForm)
			} else {
				opens(t, f, b)
			}
		}
	}
	for _, n := range []uint32{3 + 1<<8, 3 + 1<<16, 3 + 1<<24, 3 + 1<<31, math.MaxInt32, math.MaxUint32} {
		refuses(t, laid(76, 0, n, "abc", check("abc")), int(n), api.ErrForm)
		refuses(t, laid(76, 0, n, "abc", check("abc")), math.MaxInt, api.ErrForm)
		refuses(t, laid(76, 1, n, "\x02abc", check("abc")), math.MaxInt, api.ErrForm)
	}
}

func TestOpenRefusesTokensThatAreNone(t *testing.T) {
	for _, x := range []struct {
		p string
		n uint32
	}{
		{"\x00", 1},                // it ends within a literal one
		{"\x02ab", 3},              // the same
		{"\x00a\x80", 5},           // it ends within a match
		{"\x00a\x80\x00", 5},       // the same
		{"\x80\x00\x00", 4},        // nothing is ahead
		{"\x00a\x80\x01\x00", 5},   // two ahead, of one
		{"\x00a\x80\x00\x01", 5},   // 257 ahead, of one
		{"\x02abc", 2},             // more by one
		{"\x00a\x80\x00\x00", 4},   // more by one
		{"\x00a\x80\x00\x00", 1},   // more by a token
		{"\x00a", 0},               // more than none
		{"\x02abc", 4},             // fewer by one
		{"\x00a\x80\x00\x00", 6},   // fewer by one
		{"", 1},                    // fewer: none
		{"abc", 3},                 // not packed at all
		{"\x00a\x00", 1},           // the number is there, and then a token that ends
		{"\x02abc\x80\x04\x00", 3}, // the number is there, and then a distance that is none
		{"\x02abc\x80\x00\x00\xff", 7},
	} {
		for _, most := range []int{int(x.n), 100, math.MaxInt} {
			for _, b := range []string{"", "a", "ab", "abc", "aaaa", "aaaaa"} {
				refuses(t, laid(76, 1, x.n, x.p, check(b)), most, api.ErrForm)
			}
		}
	}
}

func TestOpenRefusesAnotherCheck(t *testing.T) {
	for _, x := range []struct{ p, b string }{{"", ""}, {"\x02abc", "abc"}, {"\x00a\xa3\x00\x00", strings.Repeat("a", 40)}} {
		sum := check(x.b)
		for bit := range 32 {
			refuses(t, laid(76, 0, uint32(len(x.b)), x.b, sum^1<<bit), 100, api.ErrSum)
			refuses(t, laid(76, 1, uint32(len(x.b)), x.p, sum^1<<bit), 100, api.ErrSum)
		}
		refuses(t, laid(76, 0, uint32(len(x.b)), x.b, ^sum), 100, api.ErrSum)
	}
	refuses(t, laid(76, 0, 9, "123456789", 0x839206E3), 9, api.ErrSum)                  // the greatest byte first
	refuses(t, laid(76, 1, 3, "\x02abc", check("\x02abc")), 3, api.ErrSum)              // of the tokens
	refuses(t, laid(76, 0, 3, "abc", check("L\x00\x03\x00\x00\x00abc")), 3, api.ErrSum) // of the head, too
	refuses(t, laid(76, 0, 3, "abd", check("abc")), 3, api.ErrSum)
}

// Of frames with another byte, with bytes taken off and with bytes put in: each answer is the one of the words.
func TestOpenOfFramesThatAreSpoilt(t *testing.T) {
	count := map[api.Errno]int{}
	look := func(f []byte) {
		number, _ := frame.Length(f)
		for _, most := range []int{-1, number - 1, number, 60, math.MaxInt} {
			want, wantE := openByTheWords(f, most)
			got, e := frame.Open(f, most)
			if e != wantE || !bytes.Equal(got, want) {
				t.Errorf("Open(%q, %d) = %q, %v, want %q, %v", f, most, got, e, want, wantE)
			}
			count[e]++
		}
	}
	for _, b := range []string{"", "a", "abc", "aaaaaa", strings.Repeat("a", 40), "abcdabcdabcdabcdabcd-abcd", string(sample(40, 2))} {
		for _, f := range [][]byte{frame.Seal([]byte(b)), plain(b), packed(string(lz.Pack([]byte(b))), b)} {
			for i := range f {
				for d := range 256 {
					other := bytes.Clone(f)
					other[i] ^= byte(d)
					look(other)
				}
				look(slices.Delete(bytes.Clone(f), i, i+1))
				look(slices.Insert(bytes.Clone(f), i, 0))
				look(slices.Insert(bytes.Clone(f), i, 'a'))
				look(f[:i])
				look(f[i:])
			}
			look(append(bytes.Clone(f), 0))
		}
	}
	for _, e := range []api.Errno{api.OK, api.ErrForm, api.ErrRange, api.ErrSum} {
		if count[e] < 1000 {
			t.Errorf("%v is told %d times", e, count[e])
		}
	}
}

// P6.2: Length.

// Neither what stands between nor the check is looked at.
func TestLengthIsWhatIsTold(t *testing.T) {
	for _, n := range []uint32{0, 1, 255, 256, 65535, 65536, 1 << 24, math.MaxInt32, 1 << 31, 0xFF010203, math.MaxUint32} {
		for way := range byte(2) {
			for _, f := range [][]byte{laid(76, way, n, "", 0), laid(76, way, n, "abc", 1), laid(76, way, n, "\xff", math.MaxUint32)} {
				if got, e := frame.Length(f); got != int(n) || e != api.OK {
					t.Errorf("Length(%q) = %d, %v, want %d", f, got, e, n)
				}
			}
		}
	}
}

func TestLengthRefusesWhatIsNoFrame(t *testing.T) {
	refused := func(f []byte) {
		t.Helper()
		if n, e := frame.Length(f); n != 0 || e != api.ErrForm {
			t.Errorf("Length(%q) = %d, %v, want 0 and ErrForm", f, n, e)
		}
	}
	refused(nil)
	for _, f := range [][]byte{plain("abc"), packed("\x02abc", "abc"), laid(76, 0, math.MaxUint32, "", 0)} {
		for n := range 10 {
			refused(f[:n])
		}
		for c := range 256 {
			other := bytes.Clone(f)
			if other[0] = byte(c); c != 76 {
				refused(other)
			}
			other[0] = 76
			if other[1] = byte(c); c > 1 {
				refused(other)
			}
		}
	}
}

// P6.2: Packed.

func TestPackedOfEachFirstAndSecondByte(t *testing.T) {
	for first := range 256 {
		for second := range 256 {
			want := first == 76 && second == 1
			for _, f := range [][]byte{laid(byte(first), byte(second), 0, "", 0), laid(byte(first), byte(second), 9, "\xff", 7)} {
				if got := frame.Packed(f); got != want {
					t.Errorf("Packed(%q) = %v", f, got)
				}
			}
		}
	}
}

func TestPackedOfFewBytes(t *testing.T) {
	f := packed("\x02abc", "abc")
	for n := range len(f) + 1 {
		if got := frame.Packed(f[:n]); got != (n >= 10) {
			t.Errorf("Packed(%q) = %v", f[:n], got)
		}
	}
	if frame.Packed(nil) {
		t.Error("nothing is packed")
	}
}

// P6.3.

func TestWhatIsSealedIsOpenedAsItWas(t *testing.T) {
	for _, b := range inputs() {
		f := frame.Seal(b)
		opens(t, f, string(b))
		refuses(t, f, len(b)-1, api.ErrRange)
		if len(f) > len(b)+10 {
			t.Errorf("%d bytes (%.20q ..): the frame has %d", len(b), b, len(f))
		}
		if frame.Packed(f) == (len(f) == len(b)+10) {
			t.Errorf("%d bytes (%.20q ..) are packed, and the frame has %d", len(b), b, len(f))
		}
		if n, e := frame.Length(f); n != len(b) || e != api.OK {
			t.Errorf("Length of %d bytes' frame = %d, %v", len(b), n, e)
		}
		again := frame.Seal(f)
		opens(t, again, string(f))
	}
}

func TestEachTextOfTwoBytes(t *testing.T) {
	for n := range 13 {
		for x := range 1 << n {
			b := make([]byte, n)
			for i := range b {
				b[i] = 'a' + byte(x>>i&1)
			}
			f := frame.Seal(b)
			if got, e := frame.Open(f, n); e != api.OK || !bytes.Equal(got, b) || len(f) > n+10 {
				t.Errorf("%q is sealed as %q, and opened as %q, %v", b, f, got, e)
			}
		}
	}
}

// R4: what is handed in is neither changed nor kept, nor is the room behind it looked into.

func TestArgumentsAndTheirRoomAreLeft(t *testing.T) {
	open := func(f []byte) []byte { b, _ := frame.Open(f, 1000); return b }
	for _, b := range []string{"", "abc", "aaaaaaaaaa", "abcdabcdabcdabcd", string(sample(200, 256))} {
		for _, x := range []struct {
			name string
			in   []byte
			call func([]byte) []byte
		}{
			{"Seal", []byte(b), frame.Seal},
			{"Open", frame.Seal([]byte(b)), open},
			{"Open", plain(b), open},
			{"Open", packed(string(lz.Pack([]byte(b))), b), open},
		} {
			room := append(bytes.Clone(x.in), x.in...)
			was := bytes.Clone(room)
			got := x.call(room[:len(x.in)])
			frame.Length(room[:len(x.in)])
			frame.Packed(room[:len(x.in)])
			_ = append(got, "what is put behind"...)
			if !bytes.Equal(room, was) {
				t.Errorf("%s of %q: it, or the room behind it, is changed: %q", x.name, x.in, room)
			}
			kept := bytes.Clone(got)
			for i := range room {
				room[i] ^= 255
			}
			if !bytes.Equal(got, kept) || !bytes.Equal(got, x.call(x.in)) {
				t.Errorf("%s of %q shares memory, or looks into the room: %q", x.name, x.in, got)
			}
		}
	}
}

// R5: what was refused before does not matter.
func TestAFrameIsOpenedBehindRefusals(t *testing.T) {
	good := packed("\x02abc", "abc")
	for _, x := range []struct {
		f    []byte
		most int
		e    api.Errno
	}{
		{nil, 3, api.ErrForm},
		{good, 2, api.ErrRange},
		{good[:len(good)-1], 3, api.ErrForm},
		{packed("\x02abd", "abc"), 3, api.ErrSum},
	} {
		refuses(t, x.f, x.most, x.e)
		opens(t, good, "abc")
	}
}
