package sum

import (
	"bytes"
	"math"
	"slices"
	"testing"

	"footplate/octet"
)

// The header of the chapter's example, its checksum's place 0.
const header = "450000730000400040110000c0a80001c0a800c7"

func unhex(t *testing.T, s string) []byte {
	t.Helper()
	b, is := octet.Unhex(s)
	if !is {
		t.Fatal("no digits: ", s)
	}
	return b
}

// some is n bytes that hang on n and seed alone.
func some(n int, seed uint32) []byte {
	out := make([]byte, n)
	for i := range out {
		seed = seed*1664525 + 1013904223
		out[i] = byte(seed >> 24)
	}
	return out
}

// slow is Raw by another way: the rows in one, an even number of bytes, each sum folded on the spot.
func slow(l ...[]byte) uint16 {
	all := slices.Concat(l...)
	if len(all)%2 == 1 {
		all = append(all, 0)
	}
	n := 0
	for i := 0; i < len(all); i += 2 {
		n += int(all[i])*256 + int(all[i+1])
		if n > 65535 {
			n -= 65535
		}
	}
	return uint16(n)
}

// P2.1: Raw, Of and Check by values that are written out.
func TestRaw(t *testing.T) {
	for _, c := range []struct {
		rows []string
		want uint16
	}{
		{nil, 0}, {[]string{""}, 0}, {[]string{"", "", ""}, 0}, {[]string{"00"}, 0}, {[]string{"0000", "00"}, 0},
		{[]string{"01"}, 0x0100}, {[]string{"0001"}, 1}, {[]string{"0102"}, 0x0102}, {[]string{"010203"}, 0x0402},
		{[]string{"ff"}, 0xff00}, {[]string{"00ff"}, 0x00ff}, {[]string{"fffe"}, 65534}, {[]string{"ffff"}, 65535}, {[]string{"ff", "ff"}, 65535},
		// A row of an odd number of bytes: the next row's first byte ends its word, empty rows between them or not.
		{[]string{"01", "02"}, 0x0102}, {[]string{"01", "", "02"}, 0x0102}, {[]string{"01", "0203"}, 0x0402},
		{[]string{"01", "02", "03"}, 0x0402}, {[]string{"010203", "04"}, 0x0406}, {[]string{"010203", "0405"}, 0x0906},
		{[]string{"", "01", "0203", "", "040506"}, 0x0102 + 0x0304 + 0x0506}, {[]string{"0102", "03"}, 0x0402},
		// Sums of just 65535 aren't folded; those above are, till nothing is above.
		{[]string{"fffe", "0001"}, 65535}, {[]string{"8000", "7fff"}, 65535}, {[]string{"ffff", "0000"}, 65535},
		{[]string{"ffff0001"}, 1}, {[]string{"ffff", "ffff"}, 65535}, {[]string{"80008000"}, 1}, {[]string{"8000", "8001"}, 2},
		{[]string{header}, 0x479e},
	} {
		var l [][]byte
		for _, s := range c.rows {
			l = append(l, unhex(t, s))
		}
		if got := Raw(l...); got != c.want {
			t.Errorf("Raw(%v): %04x", c.rows, got)
		}
		if got := Of(l...); got != 65535-c.want {
			t.Errorf("Of(%v): %04x", c.rows, got)
		}
		if got := Check(l...); got != (c.want == 65535) {
			t.Errorf("Check(%v): %v", c.rows, got)
		}
	}
}

// P2.1: the chapter's example.
func TestExample(t *testing.T) {
	b := unhex(t, header)
	if got := Of(b); got != 0xb861 {
		t.Errorf("%04x", got)
	}
	if Check(b) {
		t.Error("right without its sum")
	}
	b[10], b[11] = 0xb8, 0x61
	if !Check(b) {
		t.Error("wrong with its sum")
	}
	b[19]++
	if Check(b) {
		t.Error("right though a byte is another one")
	}
}

// P2.1: nil rows are empty rows.
func TestNilRows(t *testing.T) {
	if Raw(nil) != 0 || Raw(nil, nil) != 0 || Of() != 65535 || Of(nil) != 65535 || Check() || Check(nil) || Check(nil, []byte{}) {
		t.Error("nil")
	}
	if Raw([]byte{1}, nil, []byte{2}) != 0x0102 {
		t.Error(Raw([]byte{1}, nil, []byte{2}))
	}
}

// P2.1: however bytes are cut into rows, their words are the same.
func TestCuts(t *testing.T) {
	for n := range 24 {
		b := some(n, uint32(n))
		want := slow(b)
		for i := 0; i <= n; i++ {
			for j := i; j <= n; j++ {
				if got := Raw(b[:i], b[i:j], b[j:]); got != want {
					t.Fatalf("%v cut at %d and %d: %d, not %d", b, i, j, got, want)
				}
			}
		}
		ones := make([][]byte, n)
		for i := range b {
			ones[i] = b[i : i+1]
		}
		if got := Raw(ones...); got != want || Of(ones...) != 65535-want || Check(ones...) != (want == 65535) {
			t.Fatalf("%v in ones: %d, not %d", b, got, want)
		}
	}
}

// P2.1: sums that are folded more than once, and those beyond 32 bits.
func TestFold(t *testing.T) {
	for n, want := range map[uint64]uint16{
		0: 0, 1: 1, 65534: 65534, 65535: 65535, 65536: 1, 65537: 2, 131070: 65535, 131071: 1,
		0xffffffff: 65535, 0x100000000: 1, 0xfffeffff: 65534, 0xffff0001: 1, 0xfffeffffffff: 65534,
		math.MaxUint64: 65535, math.MaxUint64 - 1: 65534,
	} {
		if got := fold(n); got != want {
			t.Errorf("fold(%d): %d", n, got)
		}
	}
	// The sum is 65538 times 65535, that is 2^32 + 65534: one fold leaves 131070, the next one 65535.
	full := bytes.Repeat([]byte{255}, 2*65538)
	if Raw(full) != 65535 || Of(full) != 0 || !Check(full) {
		t.Error(Raw(full))
	}
	// A sum of 131071: one fold leaves 65536, the next one 1.
	if got := Raw([]byte{255, 255, 255, 255, 0, 1}); got != 1 {
		t.Error(got)
	}
	full = append(full, 0, 7)
	if got := Raw(full); got != 7 || Check(full) {
		t.Error(got)
	}
	for i, n := range []int{1, 2, 3, 1500, 65535, 65536, 70001, 300000} {
		if b := some(n, uint32(i)); Raw(b) != slow(b) {
			t.Errorf("%d bytes: %d, not %d", n, Raw(b), slow(b))
		}
	}
}

// edges are words at which a sum of few of them wraps round, or doesn't.
func edges() []uint16 {
	return []uint16{0, 1, 2, 0x00ff, 0x0100, 0x1234, 0x7ffe, 0x7fff, 0x8000, 0x8001, 0xaaaa, 0xff00, 0xfffd, 0xfffe, 0xffff}
}

// P2.2: Turn by values that are written out.
func TestTurn(t *testing.T) {
	for _, c := range []struct{ c, old, new, want uint16 }{
		{0xdd2f, 0x5555, 0x3285, 0}, {0, 0, 0, 0}, {0xffff, 0, 0, 0}, {0xffff, 0xffff, 0, 0xffff}, {0, 0xffff, 0, 0},
		{0xffff, 0, 1, 0xfffe}, {0xffff, 0, 0xffff, 0}, {0, 0, 0xffff, 0}, {0, 0, 1, 0xfffe}, {0xfffe, 1, 0, 0},
		{0xb861, 0x4011, 0x3f11, 0xb961}, {0xfff0, 0x0001, 0x0002, 0xffef}, {0xffff, 0xffff, 0xffff, 0},
		{0xffff, 0xffff, 1, 0xfffe}, {1, 2, 3, 0}, {1, 2, 4, 0xfffe},
	} {
		if got := Turn(c.c, c.old, c.new); got != c.want {
			t.Errorf("Turn(%04x, %04x, %04x): %04x, not %04x", c.c, c.old, c.new, got, c.want)
		}
	}
}

// P2.2: Turn as the promise says it, number by number.
func TestTurnWords(t *testing.T) {
	for _, c := range edges() {
		for _, old := range edges() {
			for _, new := range edges() {
				n := 65535 - int(c) + 65535 - int(old) + int(new)
				for n > 65535 {
					n = n%65536 + n/65536
				}
				if got := Turn(c, old, new); int(got) != 65535-n {
					t.Fatalf("Turn(%d, %d, %d): %d, not %d", c, old, new, got, 65535-n)
				}
			}
		}
	}
}

// P2.3: Pseudo of 4 bytes by values that are written out.
func TestPseudo4(t *testing.T) {
	src, dst := []byte{10, 0, 0, 1}, []byte{192, 168, 7, 255}
	for _, c := range []struct {
		protocol uint8
		size     int
		want     string
	}{
		{17, 258, "0a000001c0a807ff00110102"}, {0, 0, "0a000001c0a807ff00000000"}, {255, 65535, "0a000001c0a807ff00ffffff"},
		{6, 1, "0a000001c0a807ff00060001"}, {1, 256, "0a000001c0a807ff00010100"},
		{1, 65536, ""}, {1, 65537, ""}, {1, -1, ""}, {1, -65536, ""}, {1, 1 << 32, ""}, {1, math.MaxInt, ""}, {1, math.MinInt, ""},
	} {
		if got := octet.Hex(Pseudo(src, dst, c.protocol, c.size)); got != c.want {
			t.Errorf("Pseudo(%d, %d): %s", c.protocol, c.size, got)
		}
	}
}

// P2.3: Pseudo of 16 bytes by values that are written out.
func TestPseudo6(t *testing.T) {
	const a, b = "20010db8000000000000000000000001", "fe80000000000000020102fffe030405"
	src, dst := unhex(t, a), unhex(t, b)
	for _, c := range []struct {
		protocol uint8
		size     int
		want     string
	}{
		{58, 0, a + b + "000000000000003a"}, {17, 258, a + b + "0000010200000011"}, {6, 65535, a + b + "0000ffff00000006"},
		{58, 65536, a + b + "000100000000003a"}, {0, 0x01020304, a + b + "0102030400000000"},
		{255, 4294967295, a + b + "ffffffff000000ff"}, {58, 4294967294, a + b + "fffffffe0000003a"},
		{58, 4294967296, ""}, {58, 4294967297, ""}, {58, -1, ""}, {58, math.MaxInt, ""}, {58, math.MinInt, ""},
	} {
		if got := octet.Hex(Pseudo(src, dst, c.protocol, c.size)); got != c.want {
			t.Errorf("Pseudo(%d, %d): %s", c.protocol, c.size, got)
		}
	}
}

// P2.3: addresses of other and of different lengths, at each size that might pass.
func TestPseudoLengths(t *testing.T) {
	for i := range 40 {
		for j := range 40 {
			for _, size := range []int{0, 8, 65535, 65536} {
				got := Pseudo(make([]byte, i), make([]byte, j), 17, size)
				want := 0
				if i == 4 && j == 4 && size < 65536 {
					want = 12
				}
				if i == 16 && j == 16 {
					want = 40
				}
				if len(got) != want {
					t.Fatalf("%d and %d bytes, size %d: %v", i, j, size, got)
				}
			}
		}
	}
	if got := Pseudo(nil, nil, 17, 0); len(got) != 0 {
		t.Error(got)
	}
}

// P2.3: what is handed in is left alone, the room behind its end too; what is answered is new memory.
func TestPseudoShares(t *testing.T) {
	for _, n := range []int{4, 16} {
		all := some(64, 9)
		was := bytes.Clone(all)
		src, dst := all[:n], all[n:2*n]
		got := Pseudo(src, dst, 17, 300)
		again := Pseudo(src, dst, 17, 300)
		want := bytes.Clone(got)
		for i := range got {
			got[i] ^= 255
		}
		if !bytes.Equal(all, was) {
			t.Errorf("%d bytes: an argument was changed", n)
		}
		if !bytes.Equal(again, want) || !bytes.Equal(Pseudo(src, dst, 17, 300), want) {
			t.Errorf("%d bytes: two answers share memory", n)
		}
	}
}

// P2.1: rows are left alone, the room behind their end too.
func TestRawShares(t *testing.T) {
	all := some(32, 4)
	was := bytes.Clone(all)
	Raw(all[:3], all[5:6])
	Of(all[:3], all[5:6])
	Check(all[:3], all[5:6])
	if !bytes.Equal(all, was) {
		t.Error(all)
	}
}

// P2.4: what was summed with a word 0 is right when the checksum stands in that word.
func TestRight(t *testing.T) {
	lists := [][]byte{make([]byte, 2), make([]byte, 20), bytes.Repeat([]byte{255}, 20), unhex(t, header)}
	for n := 2; n < 40; n++ {
		lists = append(lists, some(n, uint32(n)))
	}
	for _, b := range lists {
		for at := 0; at+2 <= len(b); at += 2 {
			c := bytes.Clone(b)
			c[at], c[at+1] = 0, 0
			n := Of(c)
			c[at], c[at+1] = byte(n>>8), byte(n)
			if !Check(c) || !Check(c[:at/2], c[at/2:]) {
				t.Fatalf("%v, %04x at %d", c, n, at)
			}
		}
	}
}

// P2.4: with a pseudo header ahead, as a message's sum is told.
func TestRightPseudo(t *testing.T) {
	for _, n := range []int{4, 16} {
		body := some(41, 3)
		body[6], body[7] = 0, 0
		head := Pseudo(some(n, 1), some(n, 2), 17, len(body))
		c := Of(head, body)
		body[6], body[7] = byte(c>>8), byte(c)
		if !Check(head, body) {
			t.Errorf("%d bytes", n)
		}
	}
}

// row is words as bytes.
func row(l ...uint16) []byte {
	var out []byte
	for _, w := range l {
		out = append(out, byte(w>>8), byte(w))
	}
	return out
}

// P2.4: where a word becomes another one, Turn is the checksum anew, but where all words are 0 then.
func TestTurnAnew(t *testing.T) {
	for _, a := range edges() {
		for _, b := range edges() {
			for _, old := range edges() {
				for _, new := range edges() {
					got := Turn(Of(row(a, old, b)), old, new)
					want := Of(row(a, new, b))
					if a == 0 && b == 0 && new == 0 {
						want = 0 // the sum is told as 65535, as which it stands for 0, too
					}
					if got != want {
						t.Fatalf("%04x %04x %04x, then %04x: %04x, not %04x", a, old, b, new, got, want)
					}
				}
			}
		}
	}
}

// P2.4: all words 0 then, by values that are written out: Of is 65535, Turn is 0.
func TestTurnToNought(t *testing.T) {
	if Of(row(0, 0)) != 65535 || Turn(Of(row(0, 5)), 5, 0) != 0 || Turn(65535, 0, 0) != 0 {
		t.Error(Of(row(0, 0)), Turn(Of(row(0, 5)), 5, 0), Turn(65535, 0, 0))
	}
}
