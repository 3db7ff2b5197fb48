package prefix

import (
	"fmt"
	"math"
	"net/netip"
	"strings"
	"testing"

	"footplate/api"
)

// ones is an address with no bit that is 0.
func ones() [16]byte {
	var a [16]byte
	for i := range a {
		a[i] = 255
	}
	return a
}

// single is an address with one bit that is 1.
func single(place int) [16]byte {
	var a [16]byte
	a[place/8] = 128 >> (place % 8)
	return a
}

// flipped is an address one bit of which is the other one.
func flipped(a [16]byte, place int) [16]byte {
	a[place/8] ^= 128 >> (place % 8)
	return a
}

// addresses are such as differ early, late, and not at all in their first four bytes.
func addresses() [][16]byte {
	l := [][16]byte{{}, ones(), {10, 1, 2, 3}, {10, 1, 2, 3, 4}, {10, 0, 0, 0}, {10, 1}, {0x20, 1, 0xd, 0xb8, 15: 1}, {0x20, 1, 0xd, 0xb8, 0, 1}, {170, 85, 170, 85, 170, 85, 170, 85, 170, 85, 170, 85, 170, 85, 170, 85}}
	for _, place := range []int{0, 1, 7, 8, 30, 31, 32, 33, 126, 127} {
		l = append(l, single(place), flipped(ones(), place))
	}
	return l
}

// lens are those at which something changes, for the one kind or the other, and such as are far off.
func lens() []int {
	return []int{math.MinInt, math.MinInt + 1, -1 << 32, -129, -8, -2, -1, 0, 1, 7, 8, 9, 16, 31, 32, 33, 40, 63, 64, 126, 127, 128, 129, 136, 200, 256, 1 << 32, math.MaxInt}
}

// prefixes are all of these, those that may not be among them.
func prefixes() []api.Prefix {
	var l []api.Prefix
	for _, six := range []bool{false, true} {
		for _, a := range addresses() {
			for _, n := range lens() {
				l = append(l, api.Prefix{Six: six, Addr: a, Len: n})
			}
		}
	}
	return l
}

// written are the signs of addresses that were asked for already: pairs ask for the same ones again and again.
var written = map[[16]byte]string{}

// signs is an address as 128 signs, 0 or 1: what the tests hold the answers against.
func signs(a [16]byte) string {
	if s, is := written[a]; is {
		return s
	}
	s := ""
	for _, b := range a {
		s += fmt.Sprintf("%08b", b)
	}
	written[a] = s
	return s
}

// clamp is n, but no less than 0 and no more than most.
func clamp(n, most int) int {
	if n < 0 {
		return 0
	}
	if n > most {
		return most
	}
	return n
}

// most is the greatest Len of a kind.
func most(six bool) int { return map[bool]int{false: 32, true: 128}[six] }

// mayBe tells whether a prefix may be, by its signs.
func mayBe(p api.Prefix) bool {
	return p.Len >= 0 && p.Len <= most(p.Six) && !strings.Contains(signs(p.Addr)[p.Len:], "1")
}

// wantOf is what Of answers, by signs.
func wantOf(six bool, addr [16]byte, bits int) api.Prefix {
	n := clamp(bits, most(six))
	p := api.Prefix{Six: six, Len: n}
	for i, sign := range signs(addr)[:n] {
		if sign == '1' {
			p.Addr[i/8] |= 128 >> (i % 8)
		}
	}
	return p
}

// wantHas is what Has answers, by signs.
func wantHas(p api.Prefix, addr [16]byte) bool {
	return strings.HasPrefix(signs(addr), signs(p.Addr)[:clamp(p.Len, 128)])
}

// wantCommon is what Common answers of one kind: the longest of all that are no longer than either and that both begin with.
func wantCommon(p, q api.Prefix) api.Prefix {
	n := clamp(min(p.Len, q.Len), 128)
	for !strings.HasPrefix(signs(q.Addr), signs(p.Addr)[:n]) {
		n--
	}
	return wantOf(p.Six, p.Addr, n)
}

// of is the prefix that a text shows.
func of(t *testing.T, s string) api.Prefix {
	t.Helper()
	p, is := Parse(s)
	if !is || Show(p) != s {
		t.Fatalf("Parse(%q) = %v, %v, shown as %q", s, p, is, Show(p))
	}
	return p
}

// reads holds that a text is that prefix's.
func reads(t *testing.T, s string, p api.Prefix) {
	t.Helper()
	if got, is := Parse(s); got != p || !is {
		t.Errorf("Parse(%q) = %v, %v; want %v", s, got, is, p)
	}
}

// none holds that a text is no prefix's.
func none(t *testing.T, s string) {
	t.Helper()
	if p, is := Parse(s); is || p != (api.Prefix{}) {
		t.Errorf("Parse(%q) = %v, %v; want none", s, p, is)
	}
}

// asLibrary holds that a text is parsed as the library does it, where no bit stands behind the prefix; it tells whether it is parsed.
func asLibrary(t *testing.T, s string) bool {
	t.Helper()
	p, is := Parse(s)
	if !is && p != (api.Prefix{}) {
		t.Fatalf("Parse(%q) = %v, false", s, p)
	}
	var want api.Prefix
	l, err := netip.ParsePrefix(s)
	ours := err == nil && l.Masked() == l
	if ours && l.Addr().Is4() {
		a := l.Addr().As4()
		copy(want.Addr[:], a[:])
		want.Len = l.Bits()
	} else if ours {
		want = api.Prefix{Six: true, Addr: l.Addr().As16(), Len: l.Bits()}
	}
	if is != ours || p != want {
		t.Fatalf("Parse(%q) = %v, %v; the library: %v, %v", s, p, is, l, err)
	}
	return is
}

// P8.1: bits that are written out, at the edges of bytes and of the address, and beyond.
func TestBit(t *testing.T) {
	a := [16]byte{0x81, 0x7e, 3: 1, 4: 0x80, 15: 1}
	for i, want := range map[int]int{0: 1, 1: 0, 6: 0, 7: 1, 8: 0, 9: 1, 14: 1, 15: 0, 16: 0, 30: 0, 31: 1, 32: 1, 33: 0, 119: 0, 120: 0, 126: 0, 127: 1, -1: 0, 128: 0} {
		if got := Bit(a, i); got != want {
			t.Errorf("Bit(%v, %d) = %d; want %d", a, i, got, want)
		}
	}
	for _, i := range []int{-1, -2, -7, -8, -9, -127, -128, -129, 128, 129, 135, 136, 255, 256, 1 << 31, 1 << 32, 1<<32 + 1, -1 << 32, math.MinInt, math.MaxInt, math.MinInt + 1} {
		if got := Bit(ones(), i); got != 0 {
			t.Errorf("Bit(.., %d) = %d of an address of 1s", i, got)
		}
	}
}

// P8.1: each bit of each address.
func TestEachBit(t *testing.T) {
	for place := range 128 {
		for i := range 128 {
			want := 0
			if i == place {
				want = 1
			}
			if got, other := Bit(single(place), i), Bit(flipped(ones(), place), i); got != want || other != 1-want {
				t.Fatalf("bit %d, where %d is another than the others: %d, %d", i, place, got, other)
			}
		}
	}
	for _, a := range addresses() {
		for i, sign := range signs(a) {
			if got := Bit(a, i); got != int(sign-'0') {
				t.Fatalf("Bit(%v, %d) = %d", a, i, got)
			}
		}
	}
}

// P8.1: prefixes that may be, and that may not be, written out.
func TestCheck(t *testing.T) {
	for _, n := range []int{0, 1, 31, 32} {
		if got := Check(api.Prefix{Len: n}); got != api.OK {
			t.Errorf("Len %d: %v", n, got)
		}
	}
	for _, n := range []int{0, 1, 32, 33, 127, 128} {
		if got := Check(api.Prefix{Six: true, Len: n}); got != api.OK {
			t.Errorf("Len %d of Six: %v", n, got)
		}
	}
	for _, p := range []api.Prefix{{Addr: [16]byte{10}, Len: 8}, {Addr: [16]byte{128}, Len: 1}, {Addr: [16]byte{255, 255, 255, 254}, Len: 31}, {Addr: [16]byte{255, 255, 255, 255}, Len: 32}, {Six: true, Addr: [16]byte{4: 128}, Len: 33}, {Six: true, Addr: ones(), Len: 128}, {Six: true, Addr: flipped(ones(), 127), Len: 127}} {
		if got := Check(p); got != api.OK {
			t.Errorf("Check(%v) = %v", p, got)
		}
	}
	for _, p := range []api.Prefix{
		{Len: -1}, {Len: 33}, {Len: 128}, {Len: math.MinInt}, {Len: math.MaxInt}, {Len: 1 << 32}, {Six: true, Len: -1}, {Six: true, Len: 129}, {Six: true, Len: math.MinInt}, {Six: true, Len: math.MaxInt}, {Six: true, Len: 1<<32 + 1},
		{Addr: [16]byte{128}, Len: 0}, {Addr: [16]byte{64}, Len: 1}, {Addr: [16]byte{1}, Len: 7}, {Addr: [16]byte{10, 128}, Len: 8}, {Addr: [16]byte{3: 1}, Len: 31}, {Addr: [16]byte{10, 3: 1}, Len: 8}, {Addr: [16]byte{4: 128}, Len: 32}, {Addr: [16]byte{15: 1}, Len: 32}, {Addr: [16]byte{15: 1}, Len: 0},
		{Six: true, Addr: [16]byte{128}, Len: 0}, {Six: true, Addr: [16]byte{4: 128}, Len: 32}, {Six: true, Addr: [16]byte{15: 1}, Len: 127}, {Six: true, Addr: [16]byte{15: 1}, Len: 0},
		{Addr: ones(), Len: 33}, {Addr: ones(), Len: -1}, {Six: true, Addr: ones(), Len: 129},
	} {
		if got := Check(p); got != api.ErrArg {
			t.Errorf("Check(%v) = %v; want %v", p, got, api.ErrArg)
		}
	}
}

// P8.1: of each Len and each bit that is 1: just those ahead of Len may be.
func TestCheckEachBit(t *testing.T) {
	for _, six := range []bool{false, true} {
		for n := -3; n <= 131; n++ {
			for place := range 128 {
				for _, a := range [][16]byte{single(place), wantOf(true, ones(), place+1).Addr} {
					p := api.Prefix{Six: six, Addr: a, Len: n}
					may := n >= 0 && n <= most(six) && place < n
					if got := Check(p); (got == api.OK) != may || got != api.OK && got != api.ErrArg {
						t.Fatalf("Check(%v) = %v", p, got)
					}
				}
			}
		}
	}
	for _, p := range prefixes() {
		if got := Check(p); (got == api.OK) != mayBe(p) {
			t.Fatalf("Check(%v) = %v", p, got)
		}
	}
}

// P8.1: Of, written out.
func TestOf(t *testing.T) {
	for _, c := range []struct {
		six  bool
		addr [16]byte
		bits int
		want string
	}{
		{false, [16]byte{10, 1, 2, 3}, 16, "10.1.0.0/16"}, {false, [16]byte{10, 1, 2, 3, 4, 5}, 32, "10.1.2.3/32"}, {false, [16]byte{10, 1, 2, 3, 4, 5}, 33, "10.1.2.3/32"}, {false, ones(), 99, "255.255.255.255/32"}, {false, ones(), 128, "255.255.255.255/32"}, {false, ones(), math.MaxInt, "255.255.255.255/32"},
		{false, ones(), 31, "255.255.255.254/31"}, {false, ones(), 1, "128.0.0.0/1"}, {false, ones(), 0, "0.0.0.0/0"}, {false, ones(), -1, "0.0.0.0/0"}, {false, ones(), math.MinInt, "0.0.0.0/0"}, {false, ones(), 7, "254.0.0.0/7"}, {false, ones(), 9, "255.128.0.0/9"},
		{true, ones(), 0, "::/0"}, {true, ones(), -1, "::/0"}, {true, ones(), math.MinInt, "::/0"}, {true, ones(), 1, "8000::/1"}, {true, ones(), 32, "ffff:ffff::/32"}, {true, ones(), 33, "ffff:ffff:8000::/33"}, {true, ones(), 127, "ffff:ffff:ffff:ffff:ffff:ffff:ffff:fffe/127"},
		{true, ones(), 128, "ffff:ffff:ffff:ffff:ffff:ffff:ffff:ffff/128"}, {true, ones(), 129, "ffff:ffff:ffff:ffff:ffff:ffff:ffff:ffff/128"}, {true, ones(), math.MaxInt, "ffff:ffff:ffff:ffff:ffff:ffff:ffff:ffff/128"}, {true, [16]byte{10, 1, 2, 3}, 16, "a01::/16"},
	} {
		got := Of(c.six, c.addr, c.bits)
		if got != of(t, c.want) {
			t.Errorf("Of(%v, %v, %d) = %v; want %s", c.six, c.addr, c.bits, got, c.want)
		}
	}
}

// P8.1: Of of each count of bits, by signs; what it answers may be, and is left alone by itself.
func TestEachOf(t *testing.T) {
	var counts []int
	for n := -3; n <= 131; n++ {
		counts = append(counts, n)
	}
	counts = append(counts, lens()...)
	for _, six := range []bool{false, true} {
		for _, a := range addresses() {
			for _, n := range counts {
				got := Of(six, a, n)
				if got != wantOf(six, a, n) || Check(got) != api.OK || Of(six, got.Addr, got.Len) != got {
					t.Fatalf("Of(%v, %v, %d) = %v", six, a, n, got)
				}
			}
		}
	}
}

// P8.2: Has, of each Len an address that differs in one bit only.
func TestHas(t *testing.T) {
	a := [16]byte{10, 1, 2, 3, 170, 85, 170, 85, 170, 85, 170, 85, 170, 85, 170, 85}
	for _, six := range []bool{false, true} {
		for _, n := range append(lens(), 2, 3, 4, 5, 6, 15, 17, 23, 24, 25, 30, 34, 95, 96, 97, 119, 120, 121, 125) {
			p := api.Prefix{Six: six, Addr: a, Len: n}
			if !Has(p, a) {
				t.Errorf("Has(%v, its own Addr): false", p)
			}
			for place := range 128 {
				if got := Has(p, flipped(a, place)); got != (place >= n) {
					t.Errorf("Has of Len %d and an address that differs in bit %d: %v", n, place, got)
				}
			}
		}
	}
}

// P8.2: Has of all of these, by signs; the kind and the bits behind Len play no part.
func TestEachHas(t *testing.T) {
	for _, p := range prefixes() {
		for _, a := range addresses() {
			if got := Has(p, a); got != wantHas(p, a) {
				t.Fatalf("Has(%v, %v) = %v", p, a, got)
			}
		}
	}
	for _, c := range []struct {
		p    string
		addr [16]byte
		has  bool
	}{
		{"10.1.0.0/16", [16]byte{10, 1, 2, 3}, true}, {"10.1.0.0/16", [16]byte{10, 2, 2, 3}, false}, {"10.1.0.0/16", [16]byte{10, 0, 255, 255}, false}, {"0.0.0.0/0", ones(), true}, {"0.0.0.0/0", [16]byte{}, true}, {"10.1.2.3/32", [16]byte{10, 1, 2, 3}, true}, {"10.1.2.3/32", [16]byte{10, 1, 2, 2}, false}, {"10.1.2.2/31", [16]byte{10, 1, 2, 3}, true}, {"10.1.2.3/32", [16]byte{10, 1, 2, 3, 4: 1}, true},
		{"::/0", ones(), true}, {"2001:db8::/32", [16]byte{0x20, 1, 0xd, 0xb8, 15: 1}, true}, {"2001:db8::/33", [16]byte{0x20, 1, 0xd, 0xb8, 128}, false}, {"::1/128", [16]byte{15: 1}, true}, {"::1/128", [16]byte{}, false}, {"::/127", [16]byte{15: 1}, true},
	} {
		if got := Has(of(t, c.p), c.addr); got != c.has {
			t.Errorf("Has(%s, %v) = %v", c.p, c.addr, got)
		}
	}
}

// P8.2: Covers, written out: the chapter's, one way and the other.
func TestCovers(t *testing.T) {
	for _, c := range []struct {
		p, q         string
		covers, back bool
	}{
		{"10.1.0.0/16", "10.1.2.0/24", true, false}, {"0.0.0.0/0", "10.0.0.0/8", true, false}, {"10.0.0.0/8", "10.0.0.0/8", true, true}, {"0.0.0.0/0", "0.0.0.0/0", true, true}, {"10.0.0.0/9", "10.128.0.0/9", false, false}, {"10.0.0.0/16", "10.1.0.0/16", false, false}, {"10.0.0.0/8", "10.0.0.0/9", true, false},
		{"0.0.0.0/1", "128.0.0.0/1", false, false}, {"10.1.2.2/31", "10.1.2.3/32", true, false}, {"10.1.2.2/32", "10.1.2.3/32", false, false}, {"0.0.0.0/0", "255.255.255.255/32", true, false},
		{"2001:db8::/32", "2001:db8:1::/48", true, false}, {"::/0", "::/0", true, true}, {"::/0", "ff00::/8", true, false}, {"::/127", "::1/128", true, false}, {"::/128", "::1/128", false, false}, {"::1/128", "::1/128", true, true}, {"2001:db8::/33", "2001:db8:8000::/33", false, false},
		{"0.0.0.0/0", "::/0", false, false}, {"0.0.0.0/0", "::/1", false, false}, {"::/0", "10.0.0.0/8", false, false}, {"10.0.0.0/8", "a00::/8", false, false}, {"10.0.0.0/8", "a00::/16", false, false},
	} {
		p, q := of(t, c.p), of(t, c.q)
		if Covers(p, q) != c.covers || Covers(q, p) != c.back {
			t.Errorf("%s, %s: %v, %v; want %v, %v", c.p, c.q, Covers(p, q), Covers(q, p), c.covers, c.back)
		}
	}
}

// P8.2: Covers and Common of all of these, by signs, those that may not be among them: Covers holds Lens against each other as they stand.
func TestEachPair(t *testing.T) {
	for _, p := range prefixes() {
		for _, q := range prefixes() {
			covers := p.Six == q.Six && p.Len <= q.Len && wantHas(p, q.Addr)
			if got := Covers(p, q); got != covers {
				t.Fatalf("Covers(%v, %v) = %v", p, q, got)
			}
			got, is := Common(p, q)
			want := api.Prefix{}
			if p.Six == q.Six {
				want = wantCommon(p, q)
			}
			if is != (p.Six == q.Six) || got != want {
				t.Fatalf("Common(%v, %v) = %v, %v; want %v", p, q, got, is, want)
			}
		}
	}
}

// P8.2: Common, written out: the chapter's, and one of each kind, in both orders.
func TestCommon(t *testing.T) {
	for _, c := range [][3]string{
		{"10.0.0.0/16", "10.1.0.0/16", "10.0.0.0/15"}, {"10.1.0.0/16", "10.1.2.0/24", "10.1.0.0/16"}, {"10.0.0.0/9", "10.128.0.0/9", "10.0.0.0/8"}, {"10.0.0.0/8", "10.0.0.0/8", "10.0.0.0/8"}, {"0.0.0.0/1", "128.0.0.0/1", "0.0.0.0/0"}, {"0.0.0.0/0", "255.255.255.255/32", "0.0.0.0/0"}, {"0.0.0.0/32", "255.255.255.255/32", "0.0.0.0/0"}, {"10.1.2.2/32", "10.1.2.3/32", "10.1.2.2/31"}, {"10.1.2.3/32", "10.1.2.3/32", "10.1.2.3/32"}, {"0.0.0.0/0", "0.0.0.0/0", "0.0.0.0/0"},
		{"2001:db8::/32", "2001:db8:1::/48", "2001:db8::/32"}, {"::1/128", "::/127", "::/127"}, {"::1/128", "::/128", "::/127"}, {"::1/128", "::1/128", "::1/128"}, {"::/0", "ff00::/8", "::/0"}, {"8000::/1", "::/1", "::/0"}, {"2001:db8::/33", "2001:db8:8000::/33", "2001:db8::/32"}, {"2001:db8::/48", "2001:db8:8000::/48", "2001:db8::/32"},
	} {
		p, q, want := of(t, c[0]), of(t, c[1]), of(t, c[2])
		for _, pair := range [][2]api.Prefix{{p, q}, {q, p}} {
			if got, is := Common(pair[0], pair[1]); got != want || !is {
				t.Errorf("Common of %v = %s, %v; want %s", pair, Show(got), is, c[2])
			}
		}
	}
	for _, c := range [][2]string{{"0.0.0.0/0", "::/0"}, {"10.0.0.0/8", "a00::/8"}, {"10.1.2.3/32", "::1/128"}} {
		p, q := of(t, c[0]), of(t, c[1])
		for _, pair := range [][2]api.Prefix{{p, q}, {q, p}} {
			if got, is := Common(pair[0], pair[1]); is || got != (api.Prefix{}) {
				t.Errorf("Common of %v = %v, %v", pair, got, is)
			}
		}
	}
}

// P8.2: Common of Lens that may not be: one below 0 counts as 0, and Of cuts one that is too great.
func TestCommonLens(t *testing.T) {
	for _, six := range []bool{false, true} {
		for _, n := range lens() {
			for _, m := range lens() {
				want := clamp(min(n, m), most(six))
				got, is := Common(api.Prefix{Six: six, Addr: ones(), Len: n}, api.Prefix{Six: six, Addr: ones(), Len: m})
				if !is || got != wantOf(six, ones(), want) || got.Len != want {
					t.Fatalf("Len %d and %d: %v, %v", n, m, got, is)
				}
			}
		}
	}
}

// P8.3: prefixes in order, by kind, then by each byte of Addr, then by Len.
func TestCompare(t *testing.T) {
	l := []api.Prefix{
		{Len: math.MinInt}, {Len: -1}, {Len: 0}, {Len: 1}, {Len: 32}, {Len: 33}, {Len: math.MaxInt}, {Addr: [16]byte{15: 1}, Len: -1}, {Addr: [16]byte{15: 255}, Len: -5}, {Addr: [16]byte{14: 1}, Len: -1}, {Addr: [16]byte{14: 1, 15: 9}}, {Addr: [16]byte{3: 1}, Len: 32}, {Addr: [16]byte{2: 1}, Len: 31},
		{Addr: [16]byte{1, 3: 255}, Len: 32}, {Addr: [16]byte{10}, Len: 8}, {Addr: [16]byte{10}, Len: 9}, {Addr: [16]byte{10, 1}, Len: 8}, {Addr: [16]byte{127}, Len: 8}, {Addr: [16]byte{128}, Len: 1}, {Addr: [16]byte{255}, Len: 0}, {Addr: ones(), Len: 0}, {Addr: ones(), Len: 128},
		{Six: true, Len: math.MinInt}, {Six: true, Len: -1}, {Six: true}, {Six: true, Len: 127}, {Six: true, Len: 128}, {Six: true, Len: 129}, {Six: true, Len: math.MaxInt}, {Six: true, Addr: [16]byte{15: 1}, Len: -9}, {Six: true, Addr: [16]byte{15: 1}, Len: 128}, {Six: true, Addr: [16]byte{15: 128}}, {Six: true, Addr: [16]byte{8: 1}}, {Six: true, Addr: [16]byte{8: 1, 15: 1}}, {Six: true, Addr: [16]byte{7: 255}}, {Six: true, Addr: [16]byte{1}}, {Six: true, Addr: [16]byte{254, 15: 255}, Len: 128}, {Six: true, Addr: [16]byte{255}}, {Six: true, Addr: ones(), Len: 127}, {Six: true, Addr: ones(), Len: 128},
	}
	for i, p := range l {
		for j, q := range l {
			want := 0
			if i < j {
				want = -1
			} else if i > j {
				want = 1
			}
			if got := Compare(p, q); got != want {
				t.Errorf("Compare(%v, %v) = %d; want %d", p, q, got, want)
			}
		}
	}
}

// P8.3: Compare by each byte's edges in each place, whatever follows.
func TestCompareEachByte(t *testing.T) {
	for _, six := range []bool{false, true} {
		for place := range 16 {
			for _, x := range []byte{0, 1, 126, 127, 128, 254} {
				p := api.Prefix{Six: six, Addr: [16]byte{7, 7, 7, 7, 7, 7, 7, 7, 7, 7, 7, 7, 7, 7, 7, 7}, Len: 20}
				q := p
				p.Addr[place], q.Addr[place] = x, x+1
				for i := place + 1; i < 16; i++ {
					p.Addr[i], q.Addr[i] = 255, 0
				}
				q.Len = 10
				if Compare(p, q) != -1 || Compare(q, p) != 1 || Compare(p, p) != 0 || Compare(q, q) != 0 {
					t.Errorf("%v, %v: %d, %d", p, q, Compare(p, q), Compare(q, p))
				}
			}
		}
	}
}

// P8.3: texts that are written out, of prefixes that may be and that may not be: each is shown, those that may be alone are parsed.
func TestShow(t *testing.T) {
	for s, p := range map[string]api.Prefix{
		"10.1.0.0/16": {Addr: [16]byte{10, 1}, Len: 16}, "10.1.2.0/24": {Addr: [16]byte{10, 1, 2}, Len: 24}, "10.0.0.0/15": {Addr: [16]byte{10}, Len: 15}, "0.0.0.0/0": {}, "0.0.0.0/1": {Len: 1}, "255.255.255.255/32": {Addr: [16]byte{255, 255, 255, 255}, Len: 32}, "255.255.255.254/31": {Addr: [16]byte{255, 255, 255, 254}, Len: 31}, "10.0.0.0/9": {Addr: [16]byte{10}, Len: 9}, "10.0.0.0/10": {Addr: [16]byte{10}, Len: 10},
		"::/0": {Six: true}, "::/128": {Six: true, Len: 128}, "::1/128": {Six: true, Addr: [16]byte{15: 1}, Len: 128}, "2001:db8::/32": {Six: true, Addr: [16]byte{0x20, 1, 0xd, 0xb8}, Len: 32}, "8000::/1": {Six: true, Addr: [16]byte{128}, Len: 1}, "::ffff:a00:0/104": {Six: true, Addr: [16]byte{10: 255, 11: 255, 12: 10}, Len: 104}, "a01::/16": {Six: true, Addr: [16]byte{10, 1}, Len: 16},
	} {
		if got := Show(p); got != s {
			t.Errorf("Show(%v) = %q; want %q", p, got, s)
		}
		reads(t, s, p)
	}
	for s, p := range map[string]api.Prefix{
		"0.0.0.0/-1": {Len: -1}, "0.0.0.0/33": {Len: 33}, "0.0.0.0/128": {Len: 128}, "10.1.2.3/8": {Addr: [16]byte{10, 1, 2, 3}, Len: 8}, "::/-1": {Six: true, Len: -1}, "::/129": {Six: true, Len: 129}, "::1/127": {Six: true, Addr: [16]byte{15: 1}, Len: 127}, "0.0.0.0/-9223372036854775808": {Len: math.MinInt}, "::/9223372036854775807": {Six: true, Len: math.MaxInt},
	} {
		if got := Show(p); got != s {
			t.Errorf("Show(%v) = %q; want %q", p, got, s)
		}
		none(t, s)
	}
	if got := Show(api.Prefix{Addr: [16]byte{1, 2, 3, 4, 5, 6, 7, 8}, Len: 32}); got != "1.2.3.4/32" {
		t.Errorf("bytes 4 to 15 are shown: %q", got)
	}
}

// P8.3: other forms of an address of Six; of one of IPv4 there are none.
func TestForms(t *testing.T) {
	for s, p := range map[string]api.Prefix{
		"0:0:0:0:0:0:0:0/0": {Six: true}, "0::0/0": {Six: true}, "0000::/128": {Six: true, Len: 128}, "2001:DB8::/32": {Six: true, Addr: [16]byte{0x20, 1, 0xd, 0xb8}, Len: 32}, "2001:0dB8:0:0:0:0:0:0/33": {Six: true, Addr: [16]byte{0x20, 1, 0xd, 0xb8}, Len: 33}, "FF00::/8": {Six: true, Addr: [16]byte{255}, Len: 8},
		"::ffff:10.0.0.0/104": {Six: true, Addr: [16]byte{10: 255, 11: 255, 12: 10}, Len: 104}, "::0.0.0.0/0": {Six: true}, "::10.1.2.3/128": {Six: true, Addr: [16]byte{12: 10, 13: 1, 14: 2, 15: 3}, Len: 128}, "1:2:3:4:5:6:7.8.9.10/127": {Six: true, Addr: [16]byte{0, 1, 0, 2, 0, 3, 0, 4, 0, 5, 0, 6, 7, 8, 9, 10}, Len: 127}, "1:2:3:4:5:6:7::/112": {Six: true, Addr: [16]byte{0, 1, 0, 2, 0, 3, 0, 4, 0, 5, 0, 6, 0, 7}, Len: 112}, "0001::/16": {Six: true, Addr: [16]byte{0, 1}, Len: 16},
	} {
		reads(t, s, p)
		if Show(p) == s {
			t.Errorf("%q is no other form", s)
		}
	}
	for _, s := range []string{"010.0.0.0/8", "10.0.0.00/8", "10.0.0/8", "10/8", "10./8", "10.0.0.0.0/8", "::10.01.0.0/128", "0x0a.0.0.0/8", "167772160/8", "10.0.0.256/32"} {
		none(t, s)
	}
}

// P8.3: texts that are none, by the slash, by Len, and by the address.
func TestNone(t *testing.T) {
	for _, s := range []string{
		"", "/", "//", "///", "10.0.0.0", "::", "10.0.0.0/", "::/", "/8", "/0", "8", "10.0.0.0/8/8", "10.0.0.0//8", "/10.0.0.0/8", "10.0.0.0/8/", "::/0/", "::/0/0", "::/0/::/0", "//0", "10.0.0.0 8", "10.0.0.0\\8", "10.0.0.0\uff0f8", "10.0.0.0\u22158", "10.0.0.0-8", "::%0", "8/10.0.0.0", "0/::",
		"10.0.0.0 /8", " 10.0.0.0/8", "10.0.0.0/8 ", "10.0.0.0/ 8", "10.0.0.0/8\n", "\n10.0.0.0/8", "10.0.0.0/8\x00", "\ufeff10.0.0.0/8", "::/0 ", " ::/0", "::\x00/0", "[::]/0", "::1%eth0/128", "::%1/0", "1:2/16", "1::2::/16", ":/0", ":::/0", "1:2:3:4:5:6:7:8:9/128", "12345::/16", "g::/4", "localhost/8", "\xff/8", "10.0.0.0/\xff",
		"10.0.0.1/24", "10.0.0.1/31", "10.0.0.1/0", "10.0.0.1/8", "128.0.0.0/0", "64.0.0.0/1", "10.128.0.0/8", "10.0.0.1/31x", "255.255.255.255/31", "255.255.255.255/0", "::1/127", "::1/0", "::1/64", "8000::/0", "4000::/1", "2001:db8:8000::/32", "2001:db8::1/32", "::ffff:10.0.0.1/104", "::FFFF:10.0.0.1/127", "0:0:0:0:0:0:0:1/127",
	} {
		none(t, s)
	}
	for _, n := range []string{
		"", "00", "01", "08", "008", "032", "00000000000000000000008", "-0", "-1", "+0", "+8", "-8", "-", "+", "129", "130", "200", "255", "256", "999", "1000", "4294967296", "4294967304", "18446744073709551616", "18446744073709551624", strings.Repeat("1", 5000), strings.Repeat("0", 5000), "x", "8x", "x8", "0x8", "a", "1e1", "1_0", "8.", "8.0", ".8", "8,", "1 0", "\u0661", "\uff18", "8\u0662", "\u00b2", "8\x00", "\xff", "255.0.0.0", "::",
	} {
		none(t, "0.0.0.0/"+n)
		none(t, "::/"+n)
		none(t, "0:0:0:0:0:0:0.0.0.0/"+n)
	}
}

// P8.3: each Len as digits, of an address of 0s and of one of 1s: those that may be alone are parsed.
func TestEachLen(t *testing.T) {
	for n := range 400 {
		for _, c := range []struct {
			s   string
			p   api.Prefix
			may bool
		}{
			{"0.0.0.0", api.Prefix{}, n <= 32}, {"255.255.255.255", api.Prefix{Addr: [16]byte{255, 255, 255, 255}}, n == 32}, {"10.0.0.0", api.Prefix{Addr: [16]byte{10}}, n >= 7 && n <= 32}, {"::", api.Prefix{Six: true}, n <= 128}, {"::1", api.Prefix{Six: true, Addr: [16]byte{15: 1}}, n == 128}, {"2001:DB8::", api.Prefix{Six: true, Addr: [16]byte{0x20, 1, 0xd, 0xb8}}, n >= 29 && n <= 128},
		} {
			s := fmt.Sprintf("%s/%d", c.s, n)
			if !c.may {
				none(t, s)
				continue
			}
			c.p.Len = n
			reads(t, s, c.p)
		}
	}
}

// P8.3: each text that is one sign off is parsed as the library does it.
func TestOneSignOff(t *testing.T) {
	taken := 0
	held := func(s string) {
		if asLibrary(t, s) {
			taken++
		}
	}
	for _, s := range []string{"10.1.0.0/16", "0.0.0.0/0", "192.0.2.128/25", "255.255.255.255/32", "::/0", "::/128", "2001:db8::/32", "ABCD:ef00::/24", "::ffff:10.0.0.0/104", "1:2:3:4:5:6:7:8/128", "fe80::/9"} {
		for i := range len(s) + 1 {
			for sign := range 256 {
				held(s[:i] + string([]byte{byte(sign)}) + s[i:])
				if i < len(s) {
					held(s[:i] + string([]byte{byte(sign)}) + s[i+1:])
				}
			}
			if i+1 < len(s) {
				held(s[:i] + s[i+1:i+2] + s[i:i+1] + s[i+2:])
			}
			held(s[:i] + "\u0661" + s[i:])
			held(s[:i])
			held(s[i:])
		}
	}
	if taken < 100 {
		t.Errorf("only %d texts are taken", taken)
	}
}

// P8.3: all texts of these signs, up to so long a one, are parsed as the library does it.
func TestEachText(t *testing.T) {
	taken := 0
	var walk func(s string, left int, signs []string)
	walk = func(s string, left int, signs []string) {
		if asLibrary(t, s) {
			taken++
		}
		if left > 0 {
			for _, sign := range signs {
				walk(s+sign, left-1, signs)
			}
		}
	}
	walk("", 8, []string{"/", "::", "1", "0"})
	walk("", 7, []string{"/", "0.0.0.0", "3", "0", ":"})
	walk("10.0", 6, []string{"/", ".0", "8", "1", "+"})
	if taken < 200 {
		t.Errorf("only %d texts are taken", taken)
	}
}

// P8.3: long texts end, too.
func TestLong(t *testing.T) {
	const n = 200000
	for _, s := range []string{strings.Repeat("/", n), strings.Repeat("1", n), "10.0.0.0/" + strings.Repeat("8", n), "::/" + strings.Repeat("0", n), strings.Repeat("1:", n) + "/8", strings.Repeat("1.", n) + "/8", strings.Repeat("10.0.0.0/8", n), strings.Repeat("\u0661", n) + "/8", "::/" + strings.Repeat("\u0661", n), strings.Repeat(" ", n) + "::/0"} {
		if p, is := Parse(s); is || p != (api.Prefix{}) {
			t.Errorf("a text of %d bytes: %v, %v", len(s), p, is)
		}
	}
}

// P8.4: of two prefixes of one kind that may be one covers the other one, or no address is of both; an address is tried that is sure to be of both, if one is.
func TestCoversOrApart(t *testing.T) {
	seen := map[api.Prefix]int{}
	var l []api.Prefix
	for _, p := range prefixes() {
		p = Of(p.Six, p.Addr, p.Len)
		seen[p]++
		if seen[p] == 1 {
			l = append(l, p)
		}
	}
	apart := 0
	for _, p := range l {
		for _, q := range l {
			if p.Six != q.Six {
				continue
			}
			covers := Covers(p, q) || Covers(q, p)
			// An address of both has the bits of either, so the longer one's own Addr is of both, or none is.
			of := p.Addr
			if q.Len > p.Len {
				of = q.Addr
			}
			if both := Has(p, of) && Has(q, of); both != covers {
				t.Fatalf("%s, %s: covers %v, has both %v", Show(p), Show(q), covers, both)
			}
			if covers {
				continue
			}
			apart++
			for _, a := range addresses() {
				if Has(p, a) && Has(q, a) {
					t.Fatalf("%v is of %s and %s", a, Show(p), Show(q))
				}
			}
		}
	}
	if apart < 1000 {
		t.Errorf("only %d pairs are apart", apart)
	}
}

// P8.4: what both are covered by is Common, and what covers both is no longer.
func TestCommonCovers(t *testing.T) {
	for _, six := range []bool{false, true} {
		for _, a := range addresses() {
			for _, b := range addresses() {
				for _, n := range []int{0, 1, 31, 32, 33, 127, 128} {
					p, q := Of(six, a, n), Of(six, b, most(six))
					c, is := Common(p, q)
					if !is || Check(c) != api.OK || !Covers(c, p) || !Covers(c, q) {
						t.Fatalf("Common(%v, %v) = %v, %v", p, q, c, is)
					}
					if more := Of(six, p.Addr, c.Len+1); more.Len > c.Len && Covers(more, p) && Covers(more, q) {
						t.Fatalf("%v and %v have %v in common, but %v was told", p, q, more, c)
					}
				}
			}
		}
	}
}

// P8.4: what is shown is parsed; no two prefixes have one text.
func TestShownIsParsed(t *testing.T) {
	texts := map[string]api.Prefix{}
	held := func(p api.Prefix) {
		s := Show(p)
		if back, is := Parse(s); !is || back != p {
			t.Fatalf("%v is shown as %q, which is %v, %v", p, s, back, is)
		}
		if was, is := texts[s]; is && was != p {
			t.Fatalf("%v and %v are both shown as %q", was, p, s)
		}
		texts[s] = p
	}
	for _, six := range []bool{false, true} {
		for n := range most(six) + 1 {
			for _, a := range addresses() {
				held(Of(six, a, n))
			}
		}
	}
	state := uint32(1)
	for i := range 20000 {
		var a [16]byte
		for j := range a {
			state = state*1664525 + 1013904223
			if state>>30 != 0 {
				a[j] = byte(state >> 16)
			}
		}
		held(Of(i%2 == 1, a, int(state>>8)%129))
	}
}
