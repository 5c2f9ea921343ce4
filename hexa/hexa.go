// Package hexa is layer 1: see shared/doc/01-hexa.md.
package hexa

import (
	"errors"

	"lighterage/api"
)

const digits = "0123456789abcdef"

// Text is bytes in digits.
func Text(b []byte) string {
	t := make([]byte, 0, 2*len(b))
	for i := range len(b) {
		t = append(t, digits[b[i]>>4], digits[b[i]&15])
	}
	return string(t)
}

// Parse is the bytes of digits.
func Parse(s string) ([]byte, api.Errno) {
	if len(s)%2 != 0 {
		return nil, api.ErrForm
	}
	b := make([]byte, len(s)/2)
	for i := range len(b) {
		c, e := pair(s[2*i], s[2*i+1])
		if errors.Is(e, api.ErrForm) {
			return nil, api.ErrForm
		}
		b[i] = c
	}
	return b, api.OK
}

func pair(high, low byte) (byte, api.Errno) {
	h, e := digit(high)
	if errors.Is(e, api.ErrForm) {
		return 0, api.ErrForm
	}
	l, e := digit(low)
	if errors.Is(e, api.ErrForm) {
		return 0, api.ErrForm
	}
	return h<<4 | l, api.OK
}

// Capital letters are no digits: a digest has one text only.
func digit(c byte) (byte, api.Errno) {
	switch {
	case '0' <= c && c <= '9':
		return c - '0', api.OK
	case 'a' <= c && c <= 'f':
		return c - 'a' + 10, api.OK
	}
	return 0, api.ErrForm
}

// Name is a digest's text.
func Name(d api.Digest) string { return Text(d[:]) }

// Digest is the digest of a text.
func Digest(s string) (api.Digest, api.Errno) {
	b, e := Parse(s)
	if errors.Is(e, api.ErrForm) {
		return api.Digest{}, api.ErrForm
	}
	if len(b) != api.Size {
		return api.Digest{}, api.ErrRange
	}
	return api.Digest(b), api.OK
}

// Compare is how digests stand.
func Compare(a, b api.Digest) int {
	for i := range api.Size {
		if a[i] < b[i] {
			return -1
		}
		if a[i] > b[i] {
			return 1
		}
	}
	return 0
}

// Less tells whether one stands ahead.
func Less(a, b api.Digest) bool { return Compare(a, b) == -1 }
