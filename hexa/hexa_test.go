package hexa_test

import (
	"fmt"
	"sort"
	"strings"
	"testing"

	"lighterage/api"
	"lighterage/hexa"
)

// samples are digests whose order is decided at the first byte, at the last one and between, by bytes on both sides of 128.
func samples() []api.Digest {
	l := []api.Digest{{}}
	for _, i := range []int{0, 1, 15, 30, 31} {
		for _, c := range []byte{1, 9, 10, 127, 128, 255} {
			var d api.Digest
			d[i] = c
			l = append(l, d)
			d[31] = 255
			l = append(l, d)
		}
	}
	var all, rising api.Digest
	for i := range all {
		all[i], rising[i] = 255, byte(i*9)
	}
	return append(l, all, rising)
}

// P1.1: Text.

func TestTextOfFewBytes(t *testing.T) {
	for _, x := range []struct {
		b    []byte
		want string
	}{
		{nil, ""},
		{[]byte{}, ""},
		{[]byte{0}, "00"},
		{[]byte{255}, "ff"},
		{[]byte{0, 255}, "00ff"},
		{[]byte{255, 0}, "ff00"},
		{[]byte{0x0f, 0xf0}, "0ff0"},
		{[]byte{0x01, 0x23, 0x45, 0x67, 0x89, 0xab, 0xcd, 0xef}, "0123456789abcdef"},
	} {
		if got := hexa.Text(x.b); got != x.want {
			t.Errorf("Text(%v) = %q, want %q", x.b, got, x.want)
		}
	}
}

func TestTextOfEachByte(t *testing.T) {
	var all []byte
	want := ""
	for i := range 256 {
		all = append(all, byte(i))
		one := fmt.Sprintf("%02x", i)
		want += one
		if got := hexa.Text([]byte{byte(i)}); got != one {
			t.Errorf("Text of %d = %q, want %q", i, got, one)
		}
	}
	if got := hexa.Text(all); got != want {
		t.Errorf("Text of all bytes = %q, want %q", got, want)
	}
}

func TestTextLeavesItsArgument(t *testing.T) {
	room := []byte{1, 2, 3, 4, 5, 6, 7, 8}
	hexa.Text(room[:2])
	if string(room) != "\x01\x02\x03\x04\x05\x06\x07\x08" {
		t.Errorf("Text changed what it was handed: %v", room)
	}
}

// P1.1: Parse.

func TestParseOfDigits(t *testing.T) {
	for s, want := range map[string]string{
		"":                 "",
		"00":               "\x00",
		"ff":               "\xff",
		"00ff":             "\x00\xff",
		"0ff0":             "\x0f\xf0",
		"0123456789abcdef": "\x01\x23\x45\x67\x89\xab\xcd\xef",
	} {
		if got, e := hexa.Parse(s); e != api.OK || string(got) != want {
			t.Errorf("Parse(%q) = %v, %v", s, got, e)
		}
	}
}

func TestParseOfEachPairOfBytes(t *testing.T) {
	const digits = "0123456789abcdef"
	for i := range 256 {
		for j := range 256 {
			h, l := strings.IndexByte(digits, byte(i)), strings.IndexByte(digits, byte(j))
			b, e := hexa.Parse(string([]byte{byte(i), byte(j)}))
			if h < 0 || l < 0 {
				if e != api.ErrForm || len(b) != 0 {
					t.Errorf("Parse of bytes %d %d = %v, %v, want ErrForm", i, j, b, e)
				}
			} else if e != api.OK || len(b) != 1 || int(b[0]) != 16*h+l {
				t.Errorf("Parse of bytes %d %d = %v, %v, want %d", i, j, b, e, 16*h+l)
			}
		}
	}
}

func TestParseRefusesWhatAreNoDigits(t *testing.T) {
	for _, s := range []string{
		"0", "f", "000", "00f", "0123456", // odd
		"g", "G", "00g", // odd, and a digit that is none
		"0g", "g0", "0/", "0:", "0`", "0@", "-1", "+1", "0x", "0x00", " 0", "0 ", "00 00 ", "00\n\n", "\x00\x00",
		"0A", "A0", "FF", "aB", "00FF", // capital letters
		"00000g", "g00000", "00g000", // at each end and between
		"\xff\xff", "é", "٠", "0é0",
	} {
		if b, e := hexa.Parse(s); e != api.ErrForm || len(b) != 0 {
			t.Errorf("Parse(%q) = %v, %v, want none and ErrForm", s, b, e)
		}
	}
}

func TestParseAnswersNewMemory(t *testing.T) {
	const s = "0011"
	a, _ := hexa.Parse(s)
	for i := range a {
		a[i] = 77
	}
	if b, e := hexa.Parse(s); e != api.OK || string(b) != "\x00\x11" {
		t.Errorf("Parse(%q) behind a change of its first answer = %v, %v", s, b, e)
	}
}

// P1.2: Name and Digest.

func TestNameIsTheDigitsOfAllBytes(t *testing.T) {
	for _, d := range samples() {
		if got, want := hexa.Name(d), fmt.Sprintf("%x", d[:]); got != want {
			t.Errorf("Name = %q, want %q", got, want)
		}
	}
	if got := hexa.Name(api.Digest{}); got != strings.Repeat("00", 32) {
		t.Errorf("Name of the zero digest = %q", got)
	}
}

func TestDigestOfATextOf32Bytes(t *testing.T) {
	var want api.Digest
	for i := range want {
		want[i] = byte(i)
	}
	got, e := hexa.Digest("000102030405060708090a0b0c0d0e0f101112131415161718191a1b1c1d1e1f")
	if got != want || e != api.OK {
		t.Errorf("Digest = %v, %v", got, e)
	}
	if got, e = hexa.Digest(strings.Repeat("0", 64)); got != (api.Digest{}) || e != api.OK {
		t.Errorf("Digest of noughts = %v, %v", got, e)
	}
}

func TestDigestOfOtherNumbersOfBytes(t *testing.T) {
	for _, n := range []int{0, 1, 16, 31, 33, 64, 4096} {
		if d, e := hexa.Digest(strings.Repeat("ab", n)); d != (api.Digest{}) || e != api.ErrRange {
			t.Errorf("Digest of the digits of %d bytes = %v, %v, want ErrRange", n, d, e)
		}
	}
}

func TestDigestTellsFormAheadOfRange(t *testing.T) {
	for _, s := range []string{
		"0", "x", "0g", "AB",
		strings.Repeat("0", 63), strings.Repeat("0", 65), // odd
		strings.Repeat("0", 61) + "g", strings.Repeat("0", 65) + "g", // of 31 and of 33
		strings.Repeat("0", 63) + "g", "g" + strings.Repeat("0", 63), // of 32
		strings.Repeat("AB", 32), strings.Repeat("AB", 31), strings.Repeat("AB", 33),
	} {
		if d, e := hexa.Digest(s); d != (api.Digest{}) || e != api.ErrForm {
			t.Errorf("Digest(%q) = %v, %v, want ErrForm", s, d, e)
		}
	}
}

// P1.2: Compare and Less.

func TestCompareAtEachByte(t *testing.T) {
	for i := range api.Size {
		for _, x := range [][2]byte{{0, 1}, {0, 255}, {127, 128}, {254, 255}} {
			var a, b api.Digest
			a[i], b[i] = x[0], x[1]
			for j := i + 1; j < api.Size; j++ { // what stands behind must not count
				a[j] = 255
			}
			if got := hexa.Compare(a, b); got != -1 {
				t.Errorf("byte %d, %d and %d: Compare = %d, want -1", i, x[0], x[1], got)
			}
			if got := hexa.Compare(b, a); got != 1 {
				t.Errorf("byte %d, %d and %d: Compare = %d, want 1", i, x[1], x[0], got)
			}
			if !hexa.Less(a, b) || hexa.Less(b, a) {
				t.Errorf("byte %d, %d and %d: Less", i, x[0], x[1])
			}
		}
	}
}

func TestCompareOfOneDigest(t *testing.T) {
	for _, d := range samples() {
		if hexa.Compare(d, d) != 0 || hexa.Less(d, d) {
			t.Errorf("%x stands ahead of, or behind, itself", d[:])
		}
	}
}

// P1.3.

func TestWhatIsToldIsReadAsItWas(t *testing.T) {
	for n := range 300 {
		b := make([]byte, n)
		for i := range b {
			b[i] = byte(i*i*7 + 31*n)
		}
		s := hexa.Text(b)
		if len(s) != 2*n {
			t.Errorf("Text of %d bytes is of %d", n, len(s))
		}
		back, e := hexa.Parse(s)
		if e != api.OK || string(back) != string(b) {
			t.Errorf("%v is read as %v, %v", b, back, e)
		}
		if again := hexa.Text(back); again != s {
			t.Errorf("%q is told again as %q", s, again)
		}
	}
}

func TestADigestIsReadAsItWas(t *testing.T) {
	for _, d := range samples() {
		if back, e := hexa.Digest(hexa.Name(d)); back != d || e != api.OK {
			t.Errorf("%x is read as %x, %v", d[:], back[:], e)
		}
	}
}

func TestTextsStandAsDigestsDo(t *testing.T) {
	l := samples()
	for _, a := range l {
		for _, b := range l {
			want := strings.Compare(hexa.Name(a), hexa.Name(b))
			if got := hexa.Compare(a, b); got != want {
				t.Errorf("Compare(%x, %x) = %d, their texts' %d", a[:], b[:], got, want)
			}
			if got := hexa.Less(a, b); got != (want < 0) {
				t.Errorf("Less(%x, %x) = %v, their texts' order %d", a[:], b[:], got, want)
			}
		}
	}
	var names []string
	for _, d := range l {
		names = append(names, hexa.Name(d))
	}
	sort.Strings(names)
	sort.Slice(l, func(i, j int) bool { return hexa.Less(l[i], l[j]) })
	for i, d := range l {
		if hexa.Name(d) != names[i] {
			t.Errorf("place %d: %s by its digest, %s by its text", i, hexa.Name(d), names[i])
		}
	}
}
