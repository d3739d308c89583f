// Package dig is layer 1: see shared/doc/01-dig.md.
package dig

import (
	"yett/api"
)

const (
	mostFigures = 18  // of a number
	mostBytes   = 8   // of a number
	mostPacked  = 999 // figures that are taken at once
	greatest    = 1<<63 - 1
	signs       = "0123456789abcdef"
)

// Digits is a number as figures.
func Digits(n, w int) (string, api.Errno) {
	if w < 1 || w > mostFigures || n < 0 {
		return "", api.ErrArg
	}
	out := make([]byte, w)
	for i := w - 1; i >= 0; i-- {
		out[i] = signs[n%10]
		n /= 10
	}
	if n > 0 {
		return "", api.ErrArg
	}
	return string(out), api.OK
}

// Value is the number of figures.
func Value(s string) (int, api.Errno) {
	if len(s) < 1 || len(s) > mostFigures {
		return 0, api.ErrForm
	}
	n := 0
	for _, r := range s {
		d, ok := figure(r)
		if !ok {
			return 0, api.ErrForm
		}
		n = 10*n + int(d)
	}
	return n, api.OK
}

// Bcd is figures, packed.
func Bcd(s string) ([]byte, api.Errno) {
	return pack(s, figure)
}

// TakeBcd is figures that are packed at a place.
func TakeBcd(b []byte, at, n int) (string, int, api.Errno) {
	if n < 0 || n > mostPacked || at < 0 || at > len(b) {
		return "", 0, api.ErrArg
	}
	size := (n + 1) / 2
	if len(b)-at < size {
		return "", 0, api.ErrShort
	}
	s := Hex(b[at : at+size])
	for _, r := range s {
		if _, ok := figure(r); !ok {
			return "", 0, api.ErrForm
		}
	}
	ahead := n % 2 // the half that no figure fills
	if ahead == 1 && s[0] != '0' {
		return "", 0, api.ErrForm
	}
	return s[ahead:], at + size, api.OK
}

// Big is a number as bytes.
func Big(n, w int) ([]byte, api.Errno) {
	if w < 1 || w > mostBytes || n < 0 {
		return nil, api.ErrArg
	}
	out := make([]byte, w)
	for i := w - 1; i >= 0; i-- {
		out[i] = byte(n)
		n >>= 8
	}
	if n > 0 {
		return nil, api.ErrArg
	}
	return out, api.OK
}

// TakeBig is the number at a place.
func TakeBig(b []byte, at, w int) (int, int, api.Errno) {
	if w < 1 || w > mostBytes || at < 0 || at > len(b) {
		return 0, 0, api.ErrArg
	}
	if len(b)-at < w {
		return 0, 0, api.ErrShort
	}
	var n uint64 // an int would hide the highest bit of eight bytes in its sign
	for _, x := range b[at : at+w] {
		n = n<<8 | uint64(x)
	}
	if n > greatest {
		return 0, 0, api.ErrForm
	}
	return int(n), at + w, api.OK
}

// Hex is bytes as signs.
func Hex(b []byte) string {
	out := make([]byte, 0, 2*len(b))
	for _, x := range b {
		out = append(out, signs[x>>4], signs[x&15])
	}
	return string(out)
}

// Unhex is the bytes of signs.
func Unhex(s string) ([]byte, api.Errno) {
	if len(s)%2 != 0 {
		return nil, api.ErrForm
	}
	return pack(s, half)
}

// figure tells what a sign is worth as a figure, and whether it is one.
func figure(r rune) (byte, bool) {
	if r < '0' || r > '9' {
		return 0, false
	}
	return byte(r - '0'), true
}

// half tells what a sign is worth as half a byte, and whether it is one. Each half has one sign alone, so great letters are none.
func half(r rune) (byte, bool) {
	if r >= 'a' && r <= 'f' {
		return byte(r - 'a' + 10), true
	}
	return figure(r)
}

// pack puts two signs into a byte. Whatever worth takes is a single byte of s, so the count of bytes is that of halves; of an odd count the first half stays 0.
func pack(s string, worth func(rune) (byte, bool)) ([]byte, api.Errno) {
	out := make([]byte, (len(s)+1)/2)
	at := len(s) % 2
	for _, r := range s {
		v, ok := worth(r)
		if !ok {
			return nil, api.ErrForm
		}
		out[at/2] = out[at/2]<<4 | v
		at++
	}
	return out, api.OK
}
