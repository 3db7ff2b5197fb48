package ip4

import (
	"bytes"
	"math"
	"slices"
	"strings"
	"testing"

	"footplate/api"
	"footplate/sum"
)

// random is a row of numbers that hangs on its seed alone.
func random(seed uint32) func() int {
	return func() int {
		seed = seed*1664525 + 1013904223
		return int(seed >> 8)
	}
}

// filled is n bytes that differ from each other and from 0 mostly.
func filled(n int) []byte {
	b := make([]byte, n)
	for i := range b {
		b[i] = byte(7*i + i/256 + 1)
	}
	return b
}

// some is a header whose fields hang on the seed alone.
func some(seed uint32) api.Ip4 {
	next := random(seed)
	h := api.Ip4{Tos: uint8(next()), Len: next(), Id: uint16(next()), Keep: next()>>7%2 == 1, More: next()>>7%2 == 1, Offset: next() >> 3 % 8192, Ttl: uint8(next()), Protocol: uint8(next())}
	for i := range 4 {
		h.Src[i], h.Dst[i] = byte(next()>>5), byte(next()>>5)
	}
	h.Options = string(filled(next() >> 4 % 11 * 4))
	return h
}

// wire is a packet by sums instead of shifts, its checksum by a loop of its own.
func wire(h api.Ip4, body []byte) []byte {
	size := 20 + len(h.Options)
	all := size + len(body)
	bits := h.Offset
	if h.Keep {
		bits += 16384
	}
	if h.More {
		bits += 8192
	}
	b := []byte{byte(64 + size/4), h.Tos, byte(all / 256), byte(all % 256), byte(h.Id / 256), byte(h.Id % 256), byte(bits / 256), byte(bits % 256), h.Ttl, h.Protocol, 0, 0}
	b = slices.Concat(b, h.Src[:], h.Dst[:], []byte(h.Options))
	mend(b, size)
	return append(b, body...)
}

// mend puts the right checksum into a header of so many bytes.
func mend(b []byte, size int) {
	b[10], b[11] = 0, 0
	total := 0
	for i := 0; i < size; i += 2 {
		total += int(b[i])*256 + int(b[i+1])
	}
	for total > 65535 {
		total = total%65536 + total/65536
	}
	total = 65535 - total
	b[10], b[11] = byte(total/256), byte(total%256)
}

// example is the chapter's, whose checksum is b861.
func example() (api.Ip4, []byte) {
	h := api.Ip4{Len: 115, Keep: true, Ttl: 64, Protocol: 17, Src: [4]byte{192, 168, 0, 1}, Dst: [4]byte{192, 168, 0, 199}}
	b := []byte{0x45, 0, 0, 0x73, 0, 0, 0x40, 0, 0x40, 0x11, 0xb8, 0x61, 0xc0, 0xa8, 0, 1, 0xc0, 0xa8, 0, 0xc7}
	return h, append(b, filled(95)...)
}

// refused holds that Parse, Body and Ttl tell just this error of b.
func refused(t *testing.T, what string, b []byte, want api.Errno) {
	t.Helper()
	if h, bad := Parse(b); h != (api.Ip4{}) || bad != want {
		t.Errorf("%s: Parse = %v, %d; want error %d alone", what, h, bad, want)
	}
	if x := Body(b); len(x) != 0 {
		t.Errorf("%s: Body = % x; want none", what, x)
	}
	if x, bad := Ttl(b, 3); len(x) != 0 || bad != want {
		t.Errorf("%s: Ttl = % x, %d; want error %d alone", what, x, bad, want)
	}
}

// taken holds that Parse and Body tell this header and this body of b.
func taken(t *testing.T, what string, b []byte, want api.Ip4, body []byte) {
	t.Helper()
	if h, bad := Parse(b); h != want || bad != api.OK {
		t.Errorf("%s: Parse = %v, %d; want %v", what, h, bad, want)
	}
	if x := Body(b); !bytes.Equal(x, body) {
		t.Errorf("%s: Body = % x; want % x", what, x, body)
	}
}

// P4.1, P4.2, P4.3: the chapter's example, each way.
func TestExample(t *testing.T) {
	h, b := example()
	taken(t, "the example", b, h, filled(95))
	if got, bad := Put(h, filled(95)); !bytes.Equal(got, b) || bad != api.OK {
		t.Errorf("Put = % x, %d; want % x", got, bad, b)
	}
	got, bad := Ttl(b, 63)
	b[8], b[10], b[11] = 63, 0xb9, 0x61
	if !bytes.Equal(got, b) || bad != api.OK {
		t.Errorf("Ttl = % x, %d; want % x", got, bad, b)
	}
}

// P4.1: each field stands where it should, alone and at its edges.
func TestParseFields(t *testing.T) {
	for _, c := range []struct {
		at   int
		with byte
		set  func(h *api.Ip4)
	}{
		{1, 1, func(h *api.Ip4) { h.Tos = 1 }},
		{1, 255, func(h *api.Ip4) { h.Tos = 255 }},
		{4, 0x12, func(h *api.Ip4) { h.Id = 0x1200 }},
		{4, 255, func(h *api.Ip4) { h.Id = 0xff00 }},
		{5, 0x34, func(h *api.Ip4) { h.Id = 0x34 }},
		{6, 0x80, func(h *api.Ip4) {}},
		{6, 0x40, func(h *api.Ip4) { h.Keep = true }},
		{6, 0x20, func(h *api.Ip4) { h.More = true }},
		{6, 0x10, func(h *api.Ip4) { h.Offset = 4096 }},
		{6, 0x1f, func(h *api.Ip4) { h.Offset = 7936 }},
		{6, 0xff, func(h *api.Ip4) { h.Keep, h.More, h.Offset = true, true, 7936 }},
		{6, 0x9f, func(h *api.Ip4) { h.Offset = 7936 }},
		{7, 1, func(h *api.Ip4) { h.Offset = 1 }},
		{7, 255, func(h *api.Ip4) { h.Offset = 255 }},
		{8, 1, func(h *api.Ip4) { h.Ttl = 1 }},
		{8, 255, func(h *api.Ip4) { h.Ttl = 255 }},
		{9, 1, func(h *api.Ip4) { h.Protocol = 1 }},
		{9, 255, func(h *api.Ip4) { h.Protocol = 255 }},
		{12, 10, func(h *api.Ip4) { h.Src[0] = 10 }},
		{15, 255, func(h *api.Ip4) { h.Src[3] = 255 }},
		{16, 10, func(h *api.Ip4) { h.Dst[0] = 10 }},
		{19, 255, func(h *api.Ip4) { h.Dst[3] = 255 }},
	} {
		b := wire(api.Ip4{}, []byte("xy"))
		b[c.at] = c.with
		mend(b, 20)
		want := api.Ip4{Len: 22}
		c.set(&want)
		taken(t, "a field", b, want, []byte("xy"))
	}
}

// P4.1: the highest bit beside Offset plays no part, whatever else stands there, but in the sum.
func TestParseHighestBit(t *testing.T) {
	for seed := range uint32(50) {
		h := some(seed)
		b := wire(h, filled(9))
		h.Len = len(b)
		b[6] |= 0x80
		refused(t, "the highest bit, and no sum of it", b, api.ErrSum)
		mend(b, Size(h))
		taken(t, "the highest bit", b, h, filled(9))
		c, _ := Ttl(b, h.Ttl+1)
		if len(c) < 20 || c[6] != b[6] {
			t.Errorf("Ttl takes the highest bit off: % x", c)
		}
	}
}

// P4.1: fewer than 20 bytes, whatever they are.
func TestParseShort(t *testing.T) {
	_, b := example()
	refused(t, "no bytes", nil, api.ErrShort)
	refused(t, "no bytes", []byte{}, api.ErrShort)
	for n := range 20 {
		refused(t, "a beginning", b[:n], api.ErrShort)
		refused(t, "noughts", make([]byte, n), api.ErrShort)
		refused(t, "ones", bytes.Repeat([]byte{255}, n), api.ErrShort)
	}
	whole := wire(api.Ip4{}, nil)
	taken(t, "20 bytes", whole, api.Ip4{Len: 20}, nil)
	refused(t, "19 bytes", whole[:19], api.ErrShort)
}

// P4.1: all first bytes; the header's fours of bytes are told ahead of the sum, the version ahead of both.
func TestParseFirst(t *testing.T) {
	for first := range 256 {
		b := wire(api.Ip4{Options: strings.Repeat("o", 40)}, filled(30))
		b[0] = byte(first)
		want := api.ErrSum
		switch {
		case first < 64 || first > 79:
			want = api.ErrVersion
		case first < 69:
			want = api.ErrLength
		case first == 79:
			want = api.OK
		}
		if want != api.OK {
			refused(t, "a first byte", b, want)
		}
		size := 4 * (first % 16)
		mend(b, max(size, 20))
		if want == api.ErrSum {
			want = api.OK
		}
		if h, bad := Parse(b); bad != want || bad == api.OK && (Size(h) != size || h.Options != string(b[20:size])) {
			t.Errorf("first byte %d: %v, %d; want %d", first, h, bad, want)
		}
	}
	refused(t, "20 bytes of 0", make([]byte, 20), api.ErrVersion)
	refused(t, "20 bytes of 255", bytes.Repeat([]byte{255}, 20), api.ErrVersion)
	refused(t, "version 6", append([]byte{0x60}, make([]byte, 60)...), api.ErrVersion)
}

// P4.1: headers of 20 to 60 bytes, and bytes that end ahead of these.
func TestParseHeader(t *testing.T) {
	for fours := 5; fours <= 15; fours++ {
		size := 4 * fours
		h := api.Ip4{Len: size, Ttl: 4, Protocol: 6, Options: string(filled(size - 20))}
		b := wire(h, nil)
		taken(t, "a header alone", b, h, nil)
		for n := 20; n < size; n++ {
			refused(t, "a header that is cut", b[:n], api.ErrLength)
			// Len is no greater than the bytes: the header alone is.
			x := slices.Clone(b)
			x[3] = byte(n)
			mend(x, size)
			refused(t, "a header that is cut", x[:n], api.ErrLength)
		}
		for at := 20; at < size; at++ {
			x := slices.Clone(b)
			x[at] ^= 1
			refused(t, "an option that isn't summed", x, api.ErrSum)
		}
	}
}

// P4.1: Len below the header's bytes, as many, as many as there are bytes, above; the sum is right each time.
func TestParseLen(t *testing.T) {
	for _, options := range []int{0, 4, 40} {
		size := 20 + options
		for _, behind := range []int{0, 1, 2, 30, 300} {
			for _, n := range []int{0, 1, 19, 20, size - 1, size, size + 1, size + behind - 1, size + behind, size + behind + 1, 255, 256, 512, 65535} {
				h := api.Ip4{Ttl: 9, Options: string(filled(options))}
				b := wire(h, filled(behind))
				b[2], b[3] = byte(n/256), byte(n%256)
				mend(b, size)
				if n < size || n > size+behind {
					refused(t, "Len", b, api.ErrLength)
					continue
				}
				h.Len = n
				taken(t, "Len", b, h, filled(behind)[:n-size])
			}
		}
	}
}

// P4.1: a length that isn't so is told ahead of a sum that isn't right.
func TestParseOrder(t *testing.T) {
	for _, c := range []struct {
		b    []byte
		want api.Errno
	}{
		{[]byte{0x55}, api.ErrShort},
		{append([]byte{0x32, 0, 255, 255}, make([]byte, 16)...), api.ErrVersion},
		{append([]byte{0x44, 0, 0, 20}, make([]byte, 16)...), api.ErrLength},
		{append([]byte{0x46, 0, 0, 20}, make([]byte, 16)...), api.ErrLength},
		{append([]byte{0x45, 0, 0, 19}, make([]byte, 16)...), api.ErrLength},
		{append([]byte{0x45, 0, 0, 21}, make([]byte, 16)...), api.ErrLength},
		{append([]byte{0x45, 0, 0, 20}, make([]byte, 16)...), api.ErrSum},
	} {
		refused(t, "several errors", c.b, c.want)
	}
}

// P4.1: each bit of the header that is another one makes the sum wrong; those behind it don't.
func TestParseSum(t *testing.T) {
	h := api.Ip4{Id: 77, Ttl: 5, Src: [4]byte{1, 2, 3, 4}, Options: "abcdefgh"}
	for at := 1; at < 40; at++ {
		for bit := range 8 {
			b := append(wire(h, filled(12)), filled(600)...)
			b[at] ^= 1 << bit
			// Bits of Len may make the length wrong instead, which is told first.
			if _, bad := Parse(b); at < 28 && at != 2 && at != 3 && bad != api.ErrSum || at >= 28 && bad != api.OK {
				t.Errorf("byte %d, bit %d: %d", at, bit, bad)
			}
		}
	}
	b := wire(h, nil)
	b[10], b[11] = 0, 0
	refused(t, "no checksum", b, api.ErrSum)
}

// P4.1: a sum that needs a checksum of 0 is right with 65535, too, since Check takes both.
func TestParseSumTwice(t *testing.T) {
	b := wire(api.Ip4{Ttl: 1}, nil)
	// The checksum becomes the Id, so that nothing is left for the checksum.
	b[4], b[5] = b[10], b[11]
	mend(b, 20)
	if b[10] != 0 || b[11] != 0 {
		t.Fatal("a checksum is left")
	}
	want := api.Ip4{Len: 20, Id: uint16(b[4])*256 + uint16(b[5]), Ttl: 1}
	taken(t, "a checksum of 0", b, want, nil)
	b[10], b[11] = 255, 255
	taken(t, "a checksum of 65535", b, want, nil)
	for ttl := range 256 {
		c, bad := Ttl(b, uint8(ttl))
		want.Ttl = uint8(ttl)
		if c := sum.Turn(65535, 256, uint16(256*ttl)); bad != api.OK || c == 65535 {
			t.Errorf("ttl %d: %d, checksum %d", ttl, bad, c)
		}
		taken(t, "a checksum that was 65535", c, want, nil)
	}
}

// P4.1: what stands behind Len is no part of the body, however much it is.
func TestBodyBehind(t *testing.T) {
	for _, n := range []int{0, 1, 2, 235, 236, 1000, 65515} {
		for _, behind := range []int{0, 1, 7, 70000} {
			b := wire(api.Ip4{Ttl: 2}, filled(n))
			taken(t, "bytes behind Len", append(b, filled(behind)...), api.Ip4{Len: 20 + n, Ttl: 2}, filled(n))
		}
	}
}

// P4.2: how many bytes a header has, whether it may be put or not.
func TestSize(t *testing.T) {
	for n := range 100 {
		if got := Size(api.Ip4{Options: strings.Repeat("x", n), Len: 7}); got != 20+n {
			t.Errorf("Size with %d bytes of Options = %d", n, got)
		}
	}
	if got := Size(api.Ip4{Options: "äö"}); got != 24 {
		t.Errorf("Size counts signs, not bytes: %d", got)
	}
}

// P4.2: headers of all kinds, with bodies of all kinds.
func TestPut(t *testing.T) {
	for seed := range uint32(400) {
		h, body := some(seed), filled(int(seed)*3%200)
		if b, bad := Put(h, body); !bytes.Equal(b, wire(h, body)) || bad != api.OK {
			t.Errorf("Put(%v, % x) = % x, %d; want % x", h, body, b, bad, wire(h, body))
		}
	}
	want := []byte{0x45, 0, 0, 20, 0, 0, 0, 0, 0, 0, 0xba, 0xeb, 0, 0, 0, 0, 0, 0, 0, 0}
	if b, bad := Put(api.Ip4{}, nil); !bytes.Equal(b, want) || bad != api.OK {
		t.Errorf("Put of nothing = % x, %d; want % x", b, bad, want)
	}
}

// P4.2: a Len that says otherwise plays no part.
func TestPutLen(t *testing.T) {
	for _, n := range []int{0, 1, 19, 27, 28, 29, 65535, 65536, -1, math.MaxInt, math.MinInt} {
		h := api.Ip4{Len: n, Options: "abcd"}
		if b, bad := Put(h, []byte("body")); !bytes.Equal(b, wire(h, []byte("body"))) || bad != api.OK || b[3] != 28 {
			t.Errorf("Put with Len %d = % x, %d", n, b, bad)
		}
	}
}

// P4.2: Options of so many bytes.
func TestPutOptions(t *testing.T) {
	for n := range 90 {
		h := api.Ip4{Options: string(filled(n))}
		b, bad := Put(h, []byte("z"))
		switch {
		case n%4 == 0 && n <= 40:
			if !bytes.Equal(b, wire(h, []byte("z"))) || bad != api.OK {
				t.Errorf("Put with %d bytes of Options = % x, %d", n, b, bad)
			}
		case len(b) != 0 || bad != api.ErrArg:
			t.Errorf("Put with %d bytes of Options = % x, %d; want ErrArg", n, b, bad)
		}
	}
}

// P4.2: Offset at its edges, with each flag.
func TestPutOffset(t *testing.T) {
	for _, n := range []int{math.MinInt, -8192, -1, 0, 1, 255, 256, 4096, 8190, 8191, 8192, 8193, 16384, 65535, 65536, 1 << 32, math.MaxInt} {
		for flags := range 4 {
			h := api.Ip4{Offset: n, Keep: flags%2 == 1, More: flags/2 == 1}
			b, bad := Put(h, nil)
			switch {
			case n >= 0 && n <= 8191:
				if !bytes.Equal(b, wire(h, nil)) || bad != api.OK || b[6] >= 128 {
					t.Errorf("Put with Offset %d = % x, %d", n, b, bad)
				}
			case len(b) != 0 || bad != api.ErrArg:
				t.Errorf("Put with Offset %d = % x, %d; want ErrArg", n, b, bad)
			}
		}
	}
}

// P4.2: Size and the body's bytes, 65535 together at most; what may not be asked is told ahead of that.
func TestPutLength(t *testing.T) {
	for _, options := range []int{0, 4, 40} {
		h := api.Ip4{Options: strings.Repeat("q", options)}
		room := 65535 - 20 - options
		for _, n := range []int{room - 1, room} {
			if b, bad := Put(h, filled(n)); !bytes.Equal(b, wire(h, filled(n))) || bad != api.OK {
				t.Errorf("Put of %d bytes with %d of Options: %d bytes, %d", n, options, len(b), bad)
			}
		}
		for _, n := range []int{room + 1, room + 2, 65535, 65536, 131072} {
			if b, bad := Put(h, filled(n)); len(b) != 0 || bad != api.ErrLength {
				t.Errorf("Put of %d bytes with %d of Options: %d bytes, %d; want ErrLength", n, options, len(b), bad)
			}
		}
	}
	for _, h := range []api.Ip4{{Options: "a"}, {Options: strings.Repeat("a", 44)}, {Options: strings.Repeat("a", 70000)}, {Offset: -1}, {Offset: 8192}} {
		if b, bad := Put(h, filled(70000)); len(b) != 0 || bad != api.ErrArg {
			t.Errorf("Put of too much that may not be: %d bytes, %d; want ErrArg", len(b), bad)
		}
	}
}

// P4.3, P4.4: another time to live, all else as it was, what stands behind Len, too.
func TestTtl(t *testing.T) {
	for seed := range uint32(60) {
		h := some(seed)
		for _, behind := range []int{0, 1, 5, 400} {
			b := append(wire(h, filled(11)), filled(behind)...)
			for _, ttl := range []uint8{0, 1, h.Ttl - 1, h.Ttl, h.Ttl + 1, 64, 128, 254, 255} {
				want := slices.Clone(b)
				want[8] = ttl
				mend(want, Size(h))
				got, bad := Ttl(b, ttl)
				if !bytes.Equal(got, want) || bad != api.OK {
					t.Errorf("Ttl(% x, %d) = % x, %d; want % x", b, ttl, got, bad, want)
				}
				parsed := h
				parsed.Ttl, parsed.Len = ttl, Size(h)+11
				taken(t, "another time to live", got, parsed, filled(11))
			}
		}
	}
}

// P4.3: the checksum is Turn's by the word in which Ttl stands, whatever it was and becomes.
func TestTtlTurn(t *testing.T) {
	for old := 0; old < 256; old += 5 {
		for ttl := range 256 {
			h := api.Ip4{Ttl: uint8(old), Protocol: uint8(old + ttl), Id: uint16(257 * ttl)}
			b := wire(h, nil)
			got, bad := Ttl(b, uint8(ttl))
			c := sum.Turn(uint16(b[10])*256+uint16(b[11]), uint16(b[8])*256+uint16(b[9]), uint16(ttl)*256+uint16(b[9]))
			if len(got) != 20 || bad != api.OK || got[10] != byte(c>>8) || got[11] != byte(c) || got[9] != b[9] {
				t.Errorf("Ttl(% x, %d) = % x, %d; want the checksum %04x", b, ttl, got, bad, c)
			}
		}
	}
}

// P4.4: what is put is parsed, whatever stands behind it.
func TestPutParse(t *testing.T) {
	for seed := range uint32(500) {
		h, body := some(seed+1000), filled(int(seed)*7%1500)
		b, bad := Put(h, body)
		h.Len = Size(h) + len(body)
		if bad != api.OK || len(b) != h.Len {
			t.Fatalf("Put(%v) = %d bytes, %d", h, len(b), bad)
		}
		taken(t, "what is put", b, h, body)
		taken(t, "what is put, and more", append(slices.Clone(b), 1, 2, 3), h, body)
		parsed, _ := Parse(b)
		if again, bad := Put(parsed, Body(b)); !bytes.Equal(again, b) || bad != api.OK {
			t.Errorf("what is parsed is put as % x, not % x", again, b)
		}
	}
}

// What is handed in stays as it is, the room behind its end included, and no answer is part of it or of another answer.
func TestNothingShared(t *testing.T) {
	h, b := example()
	b = append(b, 9, 9, 9)
	kept := slices.Clone(b)
	first, second := Body(b[:115]), Body(b[:115])
	one, _ := Ttl(b[:115], 1)
	two, _ := Ttl(b[:115], 1)
	parsed, _ := Parse(b[:115])
	put, _ := Put(h, b[20:115])
	again, _ := Put(h, b[20:115])
	if !bytes.Equal(b, kept) {
		t.Error("bytes were changed")
	}
	clear(b)
	clear(first)
	clear(one)
	clear(put)
	if !bytes.Equal(second, kept[20:115]) || !bytes.Equal(again, kept[:115]) || parsed != h || len(two) != 115 || two[8] != 1 || !bytes.Equal(two[20:], kept[20:115]) {
		t.Error("an answer shares what it is made of")
	}
	options := wire(api.Ip4{Options: "abcd"}, nil)
	parsed, _ = Parse(options)
	clear(options)
	if parsed.Options != "abcd" {
		t.Error("Options share the bytes that they were read from")
	}
}
