// Package octet is layer 1: bytes, numbers, and their digits.
package octet

import "strconv"

const digits16 = "0123456789abcdef"

// Get is the number of so many bytes (1 to 8) at a place, the highest one first; false: they aren't there.
func Get(b []byte, at, size int) (uint64, bool) {
	p, is := field(b, at, size)
	if !is {
		return 0, false
	}
	var n uint64
	for _, x := range p {
		n = n<<8 | uint64(x)
	}
	return n, true
}

// Cut is bytes from a place on; false: they aren't there.
func Cut(b []byte, at, size int) ([]byte, bool) {
	p, is := part(b, at, size)
	if !is {
		return nil, false
	}
	return fresh(p), true
}

// Put is bytes in which a number stands at a place; false: it doesn't fit.
func Put(b []byte, at, size int, n uint64) ([]byte, bool) {
	if _, is := field(b, at, size); !is || !fits(n, size) {
		return nil, false
	}
	out := fresh(b)
	p, _ := field(out, at, size)
	for i := size - 1; i >= 0; i-- {
		p[i] = byte(n)
		n >>= 8
	}
	return out, true
}

// Hex is bytes in digits of 16.
func Hex(b []byte) string {
	out := make([]byte, 0, 2*len(b))
	for _, x := range b {
		out = append(out, digits16[x>>4], digits16[x&15])
	}
	return string(out)
}

// Unhex is the bytes of digits of 16; false: they are none.
func Unhex(s string) ([]byte, bool) {
	if len(s)%2 != 0 {
		return nil, false
	}
	out := make([]byte, len(s)/2)
	// A digit is one byte of the text, so i counts digits up to the first rune that is none.
	for i, r := range s {
		d, is := digit(r, 16)
		if !is {
			return nil, false
		}
		out[i/2] = out[i/2]<<4 | byte(d)
	}
	return out, true
}

// Number is the number of digits, so great at most; false: they are none.
func Number(s string, most int) (int, bool) {
	if s == "" || len(s) > 1 && s[0] == '0' {
		return 0, false
	}
	n := 0
	for _, r := range s {
		d, is := digit(r, 10)
		// Asked ahead of the sum, since the sum itself might wrap round.
		if !is || n > most/10 || n*10 > most-d {
			return 0, false
		}
		n = n*10 + d
	}
	return n, true
}

// Digits is a number in digits.
func Digits(n int) string { return strconv.Itoa(n) }

// part is a piece of b itself; its room ends where it ends, so that nothing that is done to it reaches what follows.
func part(b []byte, at, size int) ([]byte, bool) {
	// at+size might wrap round: what is left behind at is asked instead.
	if at < 0 || size < 0 || at > len(b) || size > len(b)-at {
		return nil, false
	}
	return b[at : at+size : at+size], true
}

// field is a part that a number of 64 bits can fill.
func field(b []byte, at, size int) ([]byte, bool) {
	if size < 1 || size > 8 {
		return nil, false
	}
	return part(b, at, size)
}

// fits tells whether n is below 256 to the size; a shift by 64 leaves 0, so that all numbers fit eight bytes.
func fits(n uint64, size int) bool { return n>>(8*size) == 0 }

// fresh is a copy without any room behind its end.
func fresh(b []byte) []byte {
	out := make([]byte, len(b))
	copy(out, b)
	return out
}

// digit is what r is worth as a digit of that base (16 at most); false: it is none.
func digit(r rune, base int) (int, bool) {
	d := base
	switch {
	case r >= '0' && r <= '9':
		d = int(r - '0')
	case r >= 'a' && r <= 'f':
		d = int(r-'a') + 10
	case r >= 'A' && r <= 'F':
		d = int(r-'A') + 10
	}
	if d >= base {
		return 0, false
	}
	return d, true
}
