package roll

import (
	"sync"
	"testing"
)

// anew makes it as if no word had been asked for.
func anew() {
	made = sync.Once{}
	words = [256]uint32{}
}

// sums is what each call answers for all bytes, one behind the other.
func sums() [][256]uint32 {
	l := make([][256]uint32, 5)
	r, again := New(), New()
	again.Add(77)
	again.Reset()
	var all []byte
	for c := range 256 {
		b := byte(c)
		all = append(all, b)
		l[0][c] = Word(b)
		l[1][c] = Hash(all)
		l[2][c] = r.Add(b)
		l[3][c] = r.Sum()
		l[4][c] = again.Add(b)
	}
	return l
}

// P4.1: each of starts is the word that stands ahead of its bytes.
func TestStartsAreWordsOfTheRow(t *testing.T) {
	x := uint32(seed)
	for c := range 256 {
		if c%stride == 0 && starts[c/stride] != x {
			t.Errorf("the word of %d is made from %#x, want %#x", c, starts[c/stride], x)
		}
		x = next(x)
	}
}

// All words are made as soon as one is asked for, and not again.
func TestWordsAreMadeOnceWhenOneIsAskedFor(t *testing.T) {
	anew()
	t.Cleanup(anew)
	if words != [256]uint32{} {
		t.Fatal("there are words that nobody has asked for")
	}
	Word(7)
	for c := range words {
		if want := (rule{}).word(byte(c)); words[c] != want {
			t.Errorf("the word of %d is made as %#x, want %#x", c, words[c], want)
		}
	}
	words[7]++
	spoilt := words
	Word(7)
	if words != spoilt {
		t.Error("words are made again")
	}
}

// No answer hangs on what the table holds: neither on one word, nor on all.
func TestAnswersHangOnNothingKept(t *testing.T) {
	anew()
	t.Cleanup(anew)
	want := sums()
	for _, spoil := range []func(){
		anew,
		func() { clear(words[:]) },
		func() { words[0]++ },
		func() { words[255]++ },
		func() {
			for c := range words {
				words[c] = ^words[c]
			}
		},
	} {
		spoil()
		for i, got := range sums() {
			if got != want[i] {
				t.Errorf("call %d answers otherwise", i)
			}
		}
	}
}
