package colon

import (
	"fmt"
	"math"
	"net/netip"
	"strings"
	"testing"
)

// edges are groups where the count of digits, or a digit's kind, changes, with their digits.
func edges() map[int]string {
	return map[int]string{
		0: "0", 1: "1", 9: "9", 10: "a", 15: "f", 16: "10", 255: "ff", 256: "100", 4095: "fff", 4096: "1000", 65535: "ffff",
		0xabcd: "abcd", 0xa0: "a0", 0x0b0c: "b0c", 0xd00: "d00", 0xe001: "e001", 32768: "8000", 32767: "7fff",
	}
}

// of is the address of groups.
func of(t *testing.T, l ...int) [16]byte {
	t.Helper()
	a, is := Of([8]int(l))
	if !is {
		t.Fatalf("Of(%v): none", l)
	}
	return a
}

// none holds that a text is no address's.
func none(t *testing.T, s string) {
	t.Helper()
	if a, is := Parse(s); is || a != [16]byte{} {
		t.Errorf("Parse(%q) = %v, %v; want none", s, a, is)
	}
}

// reads holds that a text is that address's.
func reads(t *testing.T, s string, a [16]byte) {
	t.Helper()
	if got, is := Parse(s); got != a || !is {
		t.Errorf("Parse(%q) = %v, %v; want %v", s, got, is, a)
	}
}

// both holds that an address is shown as that text, and the text parsed as that address.
func both(t *testing.T, a [16]byte, s string) {
	t.Helper()
	if got := Show(a); got != s {
		t.Errorf("Show(%v) = %q; want %q", a, got, s)
	}
	reads(t, s, a)
}

// again holds that what a text is parsed as is shown, short enough, as a text that is parsed as that again; it tells whether it is parsed.
func again(t *testing.T, s string) bool {
	t.Helper()
	a, is := Parse(s)
	if !is {
		if a != [16]byte{} {
			t.Fatalf("Parse(%q) = %v, false", s, a)
		}
		return false
	}
	shown := Show(a)
	if back, is := Parse(shown); !is || back != a || len(shown) > 39 {
		t.Fatalf("Parse(%q) = %v, shown as %q, which is %v, %v", s, a, shown, back, is)
	}
	return true
}

// asLibrary holds that a text is parsed as the library does it, whose IPv4 addresses alone and whose zones aren't the document's.
func asLibrary(t *testing.T, s string) bool {
	t.Helper()
	is := again(t, s)
	a, _ := Parse(s)
	want, err := netip.ParseAddr(s)
	ours := err == nil && want.Is6() && !strings.Contains(s, "%")
	if is != ours || is && a != want.As16() {
		t.Fatalf("Parse(%q) = %v, %v; the library: %v, %v", s, a, is, want, err)
	}
	return is
}

// with is a text of eight groups, one of which is another.
func with(place int, group string) string {
	l := []string{"11", "22", "33", "44", "55", "66", "77", "88"}
	l[place] = group
	return strings.Join(l, ":")
}

// P7.1: addresses and groups that are written out.
func TestGroups(t *testing.T) {
	for _, c := range []struct {
		a [16]byte
		l [8]int
	}{
		{[16]byte{}, [8]int{}},
		{[16]byte{1, 2, 3, 4, 5, 6, 7, 8, 9, 10, 11, 12, 13, 14, 15, 16}, [8]int{258, 772, 1286, 1800, 2314, 2828, 3342, 3856}},
		{[16]byte{0x20, 0x01, 0x0d, 0xb8, 15: 1}, [8]int{0x2001, 0xdb8, 0, 0, 0, 0, 0, 1}},
		{[16]byte{255, 255, 255, 255, 255, 255, 255, 255, 255, 255, 255, 255, 255, 255, 255, 255}, [8]int{65535, 65535, 65535, 65535, 65535, 65535, 65535, 65535}},
		{[16]byte{0: 1, 15: 1}, [8]int{0: 256, 7: 1}},
	} {
		if got := Groups(c.a); got != c.l {
			t.Errorf("Groups(%v) = %v; want %v", c.a, got, c.l)
		}
		if got, is := Of(c.l); got != c.a || !is {
			t.Errorf("Of(%v) = %v, %v; want %v", c.l, got, is, c.a)
		}
	}
}

// P7.1: each number of two bytes in each place, the higher byte first.
func TestEachGroup(t *testing.T) {
	for place := range 8 {
		for n := range 65536 {
			l := [8]int{1, 2, 3, 4, 5, 6, 7, 8}
			l[place] = n
			a := [16]byte{0, 1, 0, 2, 0, 3, 0, 4, 0, 5, 0, 6, 0, 7, 0, 8}
			a[2*place], a[2*place+1] = byte(n/256), byte(n%256)
			if got, is := Of(l); got != a || !is {
				t.Fatalf("Of(%v) = %v, %v", l, got, is)
			}
			if got := Groups(a); got != l {
				t.Fatalf("Groups(%v) = %v", a, got)
			}
		}
	}
}

// P7.1: numbers that are no groups, in each place, and beside each other.
func TestOfNone(t *testing.T) {
	wrong := []int{-1, -2, -256, -65535, -65536, 65536, 65537, 131071, 131072, 1 << 31, 1<<32 + 1, -1 << 32, math.MaxInt, math.MinInt}
	for place := range 8 {
		for _, n := range wrong {
			for _, l := range [][8]int{{}, {1, 2, 3, 4, 5, 6, 7, 8}, {65535, 65535, 65535, 65535, 65535, 65535, 65535, 65535}, {-1, 0, 0, 0, 0, 0, 0, 65536}} {
				l[place] = n
				if a, is := Of(l); is || a != [16]byte{} {
					t.Errorf("Of(%v) = %v, %v; want none", l, a, is)
				}
			}
		}
	}
}

// P7.2: texts that are written out: the chapter's, and one for each kind of run.
func TestBoth(t *testing.T) {
	for s, l := range map[string][8]int{
		"2001:db8::1": {0x2001, 0xdb8, 7: 1}, "::": {}, "1:0:0:2::3": {1, 0, 0, 2, 0, 0, 0, 3}, "::ffff:a00:1": {5: 0xffff, 6: 0xa00, 7: 1},
		"1:2:3:4:5:6:7:8": {1, 2, 3, 4, 5, 6, 7, 8}, "ffff:ffff:ffff:ffff:ffff:ffff:ffff:ffff": {65535, 65535, 65535, 65535, 65535, 65535, 65535, 65535},
		"0:2:3:4:5:6:7:8": {0, 2, 3, 4, 5, 6, 7, 8}, "1:2:3:0:5:6:7:8": {1, 2, 3, 0, 5, 6, 7, 8}, "1:2:3:4:5:6:7:0": {1, 2, 3, 4, 5, 6, 7, 0},
		"0:2:0:4:0:6:0:8": {0, 2, 0, 4, 0, 6, 0, 8}, "1:0:3:0:5:0:7:0": {1, 0, 3, 0, 5, 0, 7, 0},
		"::3:4:5:6:7:8": {0, 0, 3, 4, 5, 6, 7, 8}, "1:2:3::6:7:8": {1, 2, 3, 0, 0, 6, 7, 8}, "1:2:3:4:5:6::": {1, 2, 3, 4, 5, 6, 0, 0},
		"::3:0:0:6:7:8": {0, 0, 3, 0, 0, 6, 7, 8}, "::3:4:5:6:0:0": {0, 0, 3, 4, 5, 6, 0, 0}, "1::4:0:0:7:8": {1, 0, 0, 4, 0, 0, 7, 8}, "::4:5:0:0:0": {0, 0, 0, 4, 5, 0, 0, 0}, "::3:0:0:6:0:0": {0, 0, 3, 0, 0, 6, 0, 0},
		"0:0:3::7:8": {0, 0, 3, 0, 0, 0, 7, 8}, "0:0:3:4:5::": {0, 0, 3, 4, 5, 0, 0, 0}, "::4:0:0:7:8": {0, 0, 0, 4, 0, 0, 7, 8}, "1::5:0:0:8": {1, 0, 0, 0, 5, 0, 0, 8}, "0:2::5:0:7:8": {0, 2, 0, 0, 5, 0, 7, 8},
		"::1": {7: 1}, "1::": {1}, "::1:0": {6: 1}, "0:1::": {1: 1}, "::8000:0:0:0": {4: 0x8000}, "0:0:0:8000::": {3: 0x8000}, "1::8": {0: 1, 7: 8},
		"fe80::abcd": {0: 0xfe80, 7: 0xabcd}, "::a:b:c:d:e:f": {2: 10, 3: 11, 4: 12, 5: 13, 6: 14, 7: 15}, "100::100": {0: 256, 7: 256},
	} {
		both(t, of(t, l[:]...), s)
	}
}

// P7.2: edges of digits in each place.
func TestEachDigits(t *testing.T) {
	for place := range 8 {
		for n, digits := range edges() {
			l := [8]int{0x11, 0x22, 0x33, 0x44, 0x55, 0x66, 0x77, 0x88}
			l[place] = n
			both(t, of(t, l[:]...), with(place, digits))
		}
	}
}

// P7.2, P7.3: each group, shown in as few digits as can be, and parsed in small and in capital letters, with 0s ahead and without.
func TestEachGroupsText(t *testing.T) {
	for n := range 65536 {
		l := [8]int{1, 2, 3, 4, 5, 6, 7, 8}
		l[n%8] = n
		a := of(t, l[:]...)
		text := func(form string) string {
			words := []string{"1", "2", "3", "4", "5", "6", "7", "8"}
			words[n%8] = fmt.Sprintf(form, n)
			return strings.Join(words, ":")
		}
		both(t, a, text("%x"))
		for _, form := range []string{"%X", "%02x", "%03X", "%04x", "%04X"} {
			reads(t, text(form), a)
		}
		none(t, text("%05x"))
	}
}

// P7.2: which groups are 0, in all ways, by a rule of its own: the shortest text; of alike short ones, the one that is cut first.
func TestEachRun(t *testing.T) {
	for zeros := range 256 {
		for _, n := range []int{1, 0x10, 0xabc, 65535} {
			l := make([]int, 8)
			words := make([]string, 8)
			for i := range l {
				if zeros>>i&1 == 0 {
					l[i] = n
				}
				words[i] = fmt.Sprintf("%x", l[i])
			}
			best := strings.Join(words, ":")
			most := 1
			for first := range 8 {
				for end := first; end <= 8; end++ {
					if end-first > most && zeros>>first&(1<<(end-first)-1) == 1<<(end-first)-1 {
						most = end - first
						best = strings.Join(words[:first], ":") + "::" + strings.Join(words[end:], ":")
					}
				}
			}
			both(t, of(t, l...), best)
		}
	}
}

// P7.2: what is shown is what the library shows, but for addresses that it shows dotted.
func TestShowAsLibrary(t *testing.T) {
	some := []int{0, 1, 16, 4095, 65535}
	for i := range 390625 {
		l := [8]int{}
		for place, k := 0, i; place < 8; place, k = place+1, k/5 {
			l[place] = some[k%5]
		}
		a, _ := Of(l)
		want := netip.AddrFrom16(a)
		if got := Show(a); got != want.String() && !want.Is4In6() {
			t.Fatalf("Show(%v) = %q; the library: %q", a, got, want)
		}
	}
}

// P7.3: texts that aren't what is shown.
func TestParse(t *testing.T) {
	for s, l := range map[string][8]int{
		"::ffff:10.0.0.1": {5: 0xffff, 6: 0xa00, 7: 1}, "0:0:0:0:0:0:0:0": {}, "0000:0000:0000:0000:0000:0000:0000:0000": {}, "0::0": {}, "::0": {}, "0::": {}, "00::000": {},
		"2001:DB8:0:0:1:0:0:1": {0x2001, 0xdb8, 0, 0, 1, 0, 0, 1}, "2001:0Db8::dB8": {0x2001, 0xdb8, 0, 0, 0, 0, 0, 0xdb8}, "0001:0002::0": {1, 2}, "ABCD:EF01::": {0xabcd, 0xef01}, "aBcD::F": {0: 0xabcd, 7: 15},
		"1:0:0:2:0:0:0:3": {1, 0, 0, 2, 0, 0, 0, 3}, "1::2:0:0:0:3": {1, 0, 0, 2, 0, 0, 0, 3}, "1:2:3:4:5:6:7::": {1, 2, 3, 4, 5, 6, 7, 0}, "::2:3:4:5:6:7:8": {0, 2, 3, 4, 5, 6, 7, 8}, "1:2:3::5:6:7:8": {1, 2, 3, 0, 5, 6, 7, 8},
		"::0:0:0:0:0:0:0": {}, "0:0:0:0:0:0:0::": {}, "0:0:0::0:0:0:0": {}, "0:0::": {}, "::1:2": {6: 1, 7: 2},
	} {
		reads(t, s, of(t, l[:]...))
	}
}

// P7.3: so many groups ahead of the gap and behind it, with and without a dotted text at the end.
func TestEachGap(t *testing.T) {
	words := []string{"a1", "b2", "c3", "d4", "e5", "f6", "17", "28", "39", "4a"}
	numbers := []int{0xa1, 0xb2, 0xc3, 0xd4, 0xe5, 0xf6, 0x17, 0x28, 0x39, 0x4a}
	for ahead := range 11 {
		for behind := range 11 {
			s := strings.Join(words[:ahead], ":") + "::" + strings.Join(words[10-behind:], ":")
			var l [8]int
			if ahead+behind <= 7 {
				copy(l[:], numbers[:ahead])
				copy(l[8-behind:], numbers[10-behind:])
				reads(t, s, of(t, l[:]...))
			} else {
				none(t, s)
			}
			s = strings.Join(append(append([]string{}, words[10-behind:]...), "1.2.3.4"), ":")
			s = strings.Join(words[:ahead], ":") + "::" + s
			if ahead+behind <= 5 {
				l = [8]int{6: 0x102, 7: 0x304}
				copy(l[:], numbers[:ahead])
				copy(l[6-behind:], numbers[10-behind:])
				reads(t, s, of(t, l[:]...))
			} else {
				none(t, s)
			}
		}
	}
}

// P7.3: so many groups without a gap: eight, or six and a dotted text.
func TestEachCount(t *testing.T) {
	for n := range 20 {
		s := strings.TrimSuffix(strings.Repeat("a:", n), ":")
		dots := strings.Repeat("a:", n) + "255.0.10.1"
		if n == 8 {
			reads(t, s, of(t, 10, 10, 10, 10, 10, 10, 10, 10))
		} else {
			none(t, s)
		}
		if n == 6 {
			reads(t, dots, of(t, 10, 10, 10, 10, 10, 10, 0xff00, 0xa01))
		} else {
			none(t, dots)
		}
	}
}

// P7.3: gaps and colons that may not be.
func TestNoneByColon(t *testing.T) {
	eight := "1:2:3:4:5:6:7:8"
	for _, s := range []string{
		"", ":", ":::", "::::", ":::::::", "::::::::", "1", "1:2", ":1", "1:", ":1:", "1::2:", ":1::2", "1:::2", ":::1", "1:::", "1::::2",
		"1::2::3", "::1::", "1::::", "::1::2", "1::2::", "::2:3::", "1::2::3:4:5:6:7", "1::2:::3",
		"1:2:3:4:5:6:7", "1:2:3:4:5:6:7:", ":2:3:4:5:6:7:8", ":1:2:3:4:5:6:7", eight + ":", ":" + eight, eight + "::", "::" + eight, eight + ":9", "1:2:3:4::5:6:7:8", "1::2:3:4:5:6:7:8", "1:2:3:4:5:6:7::8",
		eight + eight, eight + " ", " " + eight, eight + "\n", eight + "\x00", eight + "%1", "::1%eth0", "::/0", "::1/128", "[::1]", "[::]", "::1]", "1 ::", "1: :2::", ": :", ":: ", " ::", "::\n", "1;2::", "1-2-3-4-5-6-7-8", "1.2.3.4.5.6.7.8",
		"\uff1a\uff1a", "1\uff1a:2", ":\uff1a", "::\uff1a", "\u2236:", "\ufeff::", "::\ufeff", "\x00::", "::\x00", "\xff::", "::\xff", ":\xba:", "\u013a\u013a",
	} {
		none(t, s)
	}
}

// P7.3: groups that are none, in each place of eight, beside a gap, and alone behind or ahead of one.
func TestNoneByGroup(t *testing.T) {
	for _, group := range []string{
		"12345", "00000", "00001", "0000f", "10000", "fffff", "123456789", strings.Repeat("0", 5000), strings.Repeat("f", 17), "g", "G", "fg", "gf", "x", "0x1", "0X1", "1x", "abcg", "-1", "+1", "-0", "-", "+", " ", " 1", "1 ", "\t1", "1\n", "\x001", "1\x00", "1_0", "1,2", "1h", "/", "@", "`", "[", "1.", ".1", ".", "1.2", "1/2", "%", "a%",
		"\u00e9", "1\u00e9", "\u00e91", "\uff11", "\uff21", "\uff41", "\u0661", "\u0661\u0662", "\U0001d7ce", "\u0430", "1\u0430", "ab\u0430", "\u0410", "\ufffd", "\xff", "1\xff", "\x80", "\xc3", "a\xc3\x28", "\xed\xa0\x80", "\xf0\x9f", "f\u0301", "\u0131", "\u0161", "\u0130",
	} {
		for place := range 8 {
			none(t, with(place, group))
		}
		for _, s := range []string{group, group + "::", "::" + group, "1::" + group, group + "::1", "1:" + group + "::", "::" + group + ":1", group + "::" + group} {
			none(t, s)
		}
	}
	for place := range 8 {
		for _, group := range []string{"0", "f", "F", "00", "0f", "000", "00F", "0000", "000f", "0FFF", "abcd", "ABCD", "9999", "aA0"} {
			if !again(t, with(place, group)) {
				t.Errorf("%q: none", with(place, group))
			}
		}
	}
}

// P7.3: each single byte in the place of a digit, ahead of one, and behind one.
func TestEachSign(t *testing.T) {
	for i := range 256 {
		sign := string([]byte{byte(i)})
		digit := strings.Contains("0123456789abcdefABCDEF", sign)
		for _, s := range []string{with(3, sign), with(0, sign+"1"), with(7, "1"+sign), with(7, "ab"+sign+"f"), with(7, sign+"00f"), with(0, "fff"+sign)} {
			if is := again(t, s); is != digit {
				t.Errorf("Parse(%q): %v", s, is)
			}
		}
		for _, s := range []string{"1" + sign + "2::", "1:2:3:4" + sign + "5:6:7:8"} {
			if is := again(t, s); is != (digit && s[4] == ':' || sign == ":") {
				t.Errorf("Parse(%q): %v", s, is)
			}
		}
	}
}

// P7.3: dotted texts at the end.
func TestDotted(t *testing.T) {
	for s, l := range map[string][8]int{
		"::0.0.0.0": {}, "::0.0.0.1": {7: 1}, "::1.0.0.0": {6: 256}, "::1.2.3.4": {6: 0x102, 7: 0x304}, "::255.255.255.255": {6: 65535, 7: 65535}, "::192.0.2.128": {6: 0xc000, 7: 0x280},
		"1::1.2.3.4": {0: 1, 6: 0x102, 7: 0x304}, "::1:1.2.3.4": {5: 1, 6: 0x102, 7: 0x304}, "::FFFF:192.0.2.128": {5: 65535, 6: 0xc000, 7: 0x280}, "64:ff9b::10.9.99.100": {0x64, 0xff9b, 0, 0, 0, 0, 0xa09, 0x6364},
		"1:2:3:4:5:6:1.2.3.4": {1, 2, 3, 4, 5, 6, 0x102, 0x304}, "1:2:3:4:5::1.2.3.4": {1, 2, 3, 4, 5, 0, 0x102, 0x304}, "::2:3:4:5:6:1.2.3.4": {0, 2, 3, 4, 5, 6, 0x102, 0x304}, "1::3:4:5:6:1.2.3.4": {1, 0, 3, 4, 5, 6, 0x102, 0x304}, "0:0:0:0:0:0:0.0.0.0": {},
	} {
		reads(t, s, of(t, l[:]...))
	}
	for _, s := range []string{
		"1.2.3.4", "1.2.3.4::", "1.2.3.4:", ":1.2.3.4", ":::1.2.3.4", "::1.2.3.4:", "::1.2.3.4::", "::1.2.3.4:5", "1.2.3.4::5", "1.2.3.4::1.2.3.4", "::1.2.3.4:1.2.3.4", "1::1.2.3.4::", "1:1.2.3.4::", "1:1.2.3.4::2", "1.2.3.4:3:4:5:6:7:8", "1:2:3:4:5:1.2.3.4:8", "1:2:3:1.2.3.4:6:7:8", "1.2.3.4:5:6:7:8:9:10",
		"1:1.2.3.4", "1:2:3:4:5:1.2.3.4", "1:2:3:4:5:6:7:1.2.3.4", "1:2:3:4:5:6:7:8:1.2.3.4", "1:2:3:4:5:6::1.2.3.4", "::1:2:3:4:5:6:1.2.3.4", "1::2:3:4:5:6:1.2.3.4", "1:2:3:4:5:6:7::1.2.3.4", "1:2:3:4:5:61.2.3.4", "1:2:3:4:5:6 1.2.3.4", "1:2:3:4:5:6:1.2.3.4:", "1:2:3:4:5:6:1.2.3.4:7:8", "1:2:3:4:5:6:.1.2.3.4",
	} {
		none(t, s)
	}
	for _, no := range []string{"1.2.3", "1.2.3.4.5", "1.2", "1.", ".1", ".", "...", "1.2.3.", ".1.2.3", "1..2.3", "1.2.3.256", "256.0.0.0", "01.2.3.4", "1.2.3.04", "1.2.3.00", "1.2.3.4 ", " 1.2.3.4", "1.2.3.-4", "+1.2.3.4", "a.b.c.d", "1.2.3.f", "f1.2.3.4", "1.2.3.4\n", "1,2,3,4", "1.2.3.\u0664", "1\uff0e2.3.4", "1.2.3.4\xff", "1.2.3.4/32", "1.2.3.1000", "0x1.2.3.4"} {
		for _, ahead := range []string{"", "::", "1::", "::1:", "1:2:3:4:5:6:", "1:2:3:4:5::", "::2:3:4:5:6:"} {
			none(t, ahead+no)
		}
	}
}

// P7.3, P7.5: all texts of these signs, up to so long a one, are parsed as the library does it.
func TestEachText(t *testing.T) {
	taken := 0
	var walk func(s string, left int, signs []string)
	walk = func(s string, left int, signs []string) {
		if asLibrary(t, s) {
			taken++
		}
		if left > 0 {
			for _, sign := range signs {
				walk(s+sign, left-1, signs)
			}
		}
	}
	walk("", 17, []string{":", "c"})
	walk("", 9, []string{":", "0", "F", "."})
	walk("", 9, []string{":", "3", "1.2.3.4", "::"})
	walk("", 7, []string{":", "3a", "1.2.3.4", ":5:", "6:7", "2:3:4:5"})
	walk("1:2:3:4", 5, []string{":", "::", "5:6", "d", "1.2.3", ".4"})
	if taken < 1000 {
		t.Errorf("only %d texts are taken", taken)
	}
}

// P7.3, P7.5: each text that is one sign off, or two signs the other way round, is parsed as the library does it.
func TestOneSignOff(t *testing.T) {
	for _, s := range []string{"2001:db8::1", "::", "1:2:3:4:5:6:7:8", "::ffff:10.0.0.1", "ABCD:ef01:2345:6789:abcd:EF01:2345:6789", "1:2:3:4:5:6:7::", "::2:3:4:5:6:7:8", "1:0:0:2::3", "1:2:3:4:5:6:1.2.3.4", "1:2:3:4:5::255.255.255.255", "fe80::"} {
		for i := range len(s) + 1 {
			for sign := range 256 {
				if sign == '%' {
					continue
				}
				asLibrary(t, s[:i]+string([]byte{byte(sign)})+s[i:])
				if i < len(s) {
					asLibrary(t, s[:i]+string([]byte{byte(sign)})+s[i+1:])
				}
			}
			if i < len(s) {
				asLibrary(t, s[:i]+s[i+1:])
			}
			if i+1 < len(s) {
				asLibrary(t, s[:i]+s[i+1:i+2]+s[i:i+1]+s[i+2:])
			}
			asLibrary(t, s[:i]+"\u0661"+s[i:])
			asLibrary(t, s[:i])
			asLibrary(t, s[i:])
		}
	}
}

// P7.3: long texts end, too.
func TestLong(t *testing.T) {
	const n = 200000
	for _, s := range []string{strings.Repeat(":", n), strings.Repeat("1:", n), strings.Repeat("1", n), "::" + strings.Repeat("0", n), "::" + strings.Repeat("1:", n), strings.Repeat("1:", n) + ":", strings.Repeat("1:", n) + ":1", strings.Repeat("::1", n), "::" + strings.Repeat("1.", n), "::1.2.3." + strings.Repeat("4", n), "::" + strings.Repeat("\u0661", n), strings.Repeat("1:2:3:4:5:6:7:8", n)} {
		if a, is := Parse(s); is || a != [16]byte{} {
			t.Errorf("a text of %d bytes: %v, %v", len(s), a, is)
		}
	}
}

// P7.4: addresses that are written out.
func TestKinds(t *testing.T) {
	all := [16]byte{}
	for i := range all {
		all[i] = 255
	}
	for _, c := range []struct {
		a            [16]byte
		multi, plain bool
	}{
		{[16]byte{}, false, false}, {[16]byte{15: 1}, false, false}, {[16]byte{15: 2}, false, true}, {[16]byte{15: 3}, false, true}, {[16]byte{15: 128}, false, true}, {[16]byte{15: 129}, false, true}, {[16]byte{15: 255}, false, true},
		{[16]byte{255}, true, false}, {[16]byte{255, 15: 1}, true, false}, {[16]byte{255, 2, 15: 1}, true, false}, {all, true, false}, {[16]byte{254}, false, true}, {[16]byte{254, 255, 15: 1}, false, true}, {[16]byte{254, 128, 15: 1}, false, true},
		{[16]byte{0, 255}, false, true}, {[16]byte{1}, false, true}, {[16]byte{1, 15: 1}, false, true}, {[16]byte{127}, false, true}, {[16]byte{128}, false, true}, {[16]byte{14: 1}, false, true}, {[16]byte{14: 1, 15: 1}, false, true}, {[16]byte{0x20, 1, 0xd, 0xb8, 15: 1}, false, true}, {[16]byte{10: 255, 11: 255, 12: 127, 15: 1}, false, true}, {[16]byte{12: 224, 15: 1}, false, true},
	} {
		if Multi(c.a) != c.multi || Plain(c.a) != c.plain {
			t.Errorf("%v: Multi %v, Plain %v; want %v, %v", c.a, Multi(c.a), Plain(c.a), c.multi, c.plain)
		}
	}
}

// P7.4: each byte in each place, all others 0, and all others 0 but for a last byte 1 or 2.
func TestEachKind(t *testing.T) {
	for place := range 16 {
		for x := range 256 {
			for last := range 3 {
				a := [16]byte{15: byte(last)}
				a[place] = byte(x)
				sum := 0
				for _, y := range a {
					sum += int(y)
				}
				multi := place == 0 && x == 255
				plain := !multi && sum != 0 && !(sum == 1 && a[15] == 1)
				if Multi(a) != multi || Plain(a) != plain {
					t.Fatalf("%v: Multi %v, Plain %v", a, Multi(a), Plain(a))
				}
			}
		}
	}
}

// P7.5: what is shown is parsed as that address again, and is never longer than 39 bytes; no two addresses have one text.
func TestShownIsParsed(t *testing.T) {
	longest := 0
	texts := map[string][16]byte{}
	held := func(a [16]byte) {
		s := Show(a)
		longest = max(longest, len(s))
		if back, is := Parse(s); !is || back != a {
			t.Fatalf("%v is shown as %q, which is %v, %v", a, s, back, is)
		}
		if was, is := texts[s]; is && was != a {
			t.Fatalf("%v and %v are both shown as %q", was, a, s)
		}
		texts[s] = a
	}
	for i := range 6561 {
		for _, some := range [][3]int{{0, 1, 65535}, {0, 4096, 256}, {0, 10, 4095}} {
			var l [8]int
			for place, k := 0, i; place < 8; place, k = place+1, k/3 {
				l[place] = some[k%3]
			}
			held(of(t, l[:]...))
		}
	}
	state := uint32(1)
	for range 20000 {
		var a [16]byte
		for i := range a {
			state = state*1664525 + 1013904223
			if state>>30 != 0 {
				a[i] = byte(state >> 16)
			}
		}
		held(a)
	}
	if longest != 39 {
		t.Errorf("the longest text has %d bytes", longest)
	}
}
