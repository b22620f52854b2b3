package control

import (
	"bytes"
	"encoding/binary"
	"math"
	"math/rand"
	"slices"
	"sync"
	"testing"

	"signalman/api"
)

var (
	moduli = []int{128, 32768}
	// otherModuli holds neighbours of the moduli, numbers that become a modulus if they are cut short or turned positive, and the ends of the range.
	otherModuli = []int{
		0, 1, 2, 7, 8, 16, 64, 127, 129, 255, 256, 1024, 16384, 32767, 32769, 65535, 65536, 65536 + 128, 1<<32 + 128, 1<<32 + 32768,
		-1, -127, -128, -129, -32767, -32768, -32769, math.MaxInt32, math.MinInt32, math.MaxInt, math.MaxInt - 127, math.MinInt, math.MinInt + 128,
	}

	kinds      = []int{api.CI, api.CRR, api.CREJ, api.CSABME, api.CUA, api.CDISC, api.CDM, api.CFRMR}
	bareKinds  = []int{api.CSABME, api.CUA, api.CDISC, api.CDM, api.CFRMR}
	otherKinds = []int{-1, -2, -3, -8, 8, 9, 10, 15, 16, 128, 255, 256, 1 << 32, 1<<32 + 1, 1<<32 + 7, math.MaxInt, math.MinInt}

	// bare holds all encodings of the kinds without numbers.
	bare = map[byte]api.Ctl{
		0x6F: {Kind: api.CSABME}, 0x7F: {Kind: api.CSABME, Poll: true},
		0x63: {Kind: api.CUA}, 0x73: {Kind: api.CUA, Poll: true},
		0x43: {Kind: api.CDISC}, 0x53: {Kind: api.CDISC, Poll: true},
		0x0F: {Kind: api.CDM}, 0x1F: {Kind: api.CDM, Poll: true},
		0x87: {Kind: api.CFRMR}, 0x97: {Kind: api.CFRMR, Poll: true},
	}
)

func ctl(kind, ns, nr int, poll bool) api.Ctl {
	return api.Ctl{Kind: kind, Ns: ns, Nr: nr, Poll: poll}
}

// edges returns numbers modulo m: the smallest and the greatest ones, and those around which a bit or a byte is carried.
func edges(m int) []int {
	all := []int{0, 1, 2, 3, 8, 9, 62, 63, 64, 65, 126, 127}
	if m == 32768 {
		all = append(all, 128, 129, 254, 255, 256, 257, 300, 16383, 16384, 16385, 32640, 32766, 32767)
	}
	return all
}

// outside returns numbers that are none modulo m, some of them congruent to small ones.
func outside(m int) []int {
	return []int{-1, -2, -m + 1, -m, -m - 1, m, m + 1, 2 * m, 65536, 1 << 32, 1<<32 + 1, math.MaxInt32, math.MinInt32, math.MaxInt, math.MinInt, math.MinInt + 1}
}

// valid returns control fields of all kinds, with all numbers at the edges; with m 128 those with every number.
func valid(m int) []api.Ctl {
	numbers := edges(m)
	if m == 128 {
		numbers = nil
		for n := range m {
			numbers = append(numbers, n)
		}
	}
	var all []api.Ctl
	for _, poll := range []bool{false, true} {
		for _, nr := range numbers {
			all = append(all, ctl(api.CRR, 0, nr, poll), ctl(api.CREJ, 0, nr, poll))
			for _, ns := range numbers {
				all = append(all, ctl(api.CI, ns, nr, poll))
			}
		}
		for _, kind := range bareKinds {
			all = append(all, ctl(kind, 0, 0, poll))
		}
	}
	return all
}

// invalid returns control fields that are not valid with the modulus m.
func invalid(m int) []api.Ctl {
	var all []api.Ctl
	for _, poll := range []bool{false, true} {
		for _, n := range outside(m) {
			all = append(all, ctl(api.CI, n, 0, poll), ctl(api.CI, 0, n, poll), ctl(api.CI, m-1, n, poll), ctl(api.CI, n, m-1, poll), ctl(api.CI, n, n, poll))
		}
		for _, kind := range []int{api.CRR, api.CREJ} {
			for _, n := range outside(m) {
				all = append(all, ctl(kind, 0, n, poll))
			}
			for _, n := range slices.Concat(edges(m)[1:], outside(m)) {
				all = append(all, ctl(kind, n, 0, poll), ctl(kind, n, 1, poll), ctl(kind, n, n, poll))
			}
		}
		for _, kind := range bareKinds {
			for _, n := range slices.Concat(edges(m)[1:], outside(m)) {
				all = append(all, ctl(kind, n, 0, poll), ctl(kind, 0, n, poll), ctl(kind, n, n, poll))
			}
		}
		for _, kind := range otherKinds {
			all = append(all, ctl(kind, 0, 0, poll), ctl(kind, 1, 1, poll), ctl(kind, 0, m-1, poll), ctl(kind, -1, 0, poll), ctl(kind, 0, m, poll))
		}
	}
	return all
}

// put returns a number as the document encodes it.
func put(n, m int) []byte {
	if m == 128 {
		return []byte{byte(n)}
	}
	return binary.LittleEndian.AppendUint16(nil, uint16(n))
}

// wantBytes returns the encoding of a valid control field.
func wantBytes(c api.Ctl, m int) []byte {
	p := 0
	if c.Poll {
		p = 1
	}
	switch c.Kind {
	case api.CI:
		return slices.Concat(put(c.Ns*2, m), put(c.Nr*2+p, m))
	case api.CRR:
		return slices.Concat(put(1, m), put(c.Nr*2+p, m))
	case api.CREJ:
		return slices.Concat(put(9, m), put(c.Nr*2+p, m))
	}
	for b, x := range bare {
		if x == c {
			return []byte{b}
		}
	}
	return nil
}

// result is what Read returns.
type result struct {
	c      api.Ctl
	length int
	errno  api.Errno
}

func failed(e api.Errno) result {
	return result{errno: e}
}

func read(b []byte, m int) result {
	c, n, e := Read(b, m)
	return result{c, n, e}
}

// wantRead asks the questions of the document in its order.
func wantRead(b []byte, m int) result {
	if m != 128 && m != 32768 {
		return failed(api.ErrArg)
	}
	if len(b) == 0 {
		return failed(api.ErrShort)
	}
	if c, ok := bare[b[0]]; ok {
		return result{c, 1, api.OK}
	}
	c := api.Ctl{Kind: api.CI}
	if b[0] == 1 {
		c.Kind = api.CRR
	} else if b[0] == 9 {
		c.Kind = api.CREJ
	} else if b[0]&1 == 1 {
		return failed(api.ErrSyntax)
	}
	length := 2
	if m == 32768 {
		length = 4
	}
	if len(b) < length {
		return failed(api.ErrShort)
	}
	ns, nr := int(b[0]), int(b[1])
	if m == 32768 {
		ns, nr = int(binary.LittleEndian.Uint16(b)), int(binary.LittleEndian.Uint16(b[2:]))
		if c.Kind != api.CI && b[1] != 0 {
			return failed(api.ErrSyntax)
		}
	}
	if c.Kind == api.CI {
		c.Ns = ns >> 1
	}
	c.Nr, c.Poll = nr>>1, nr&1 == 1
	return result{c, length, api.OK}
}

func checkRead(t *testing.T, b []byte, m int) {
	t.Helper()
	if got, want := read(b, m), wantRead(b, m); got != want {
		t.Errorf("Read(% X, %d) = %v, want %v", b, m, got, want)
	}
}

func TestP1201Example(t *testing.T) {
	if got := Bytes(api.Ctl{}, 128); !bytes.Equal(got, []byte{0, 0}) {
		t.Errorf("Bytes of a CI with zero fields: % X", got)
	}
}

func TestP1201RightOfValid(t *testing.T) {
	for _, m := range moduli {
		for _, c := range valid(m) {
			if !Right(c, m) {
				t.Errorf("Right(%v, %d) is false", c, m)
			}
		}
	}
}

func TestP1201RightOfInvalid(t *testing.T) {
	for _, m := range moduli {
		for _, c := range invalid(m) {
			if Right(c, m) {
				t.Errorf("Right(%v, %d) is true", c, m)
			}
		}
	}
}

func TestP1201RightOfModuli(t *testing.T) {
	for _, kind := range kinds {
		for _, poll := range []bool{false, true} {
			for _, m := range moduli {
				if !Right(ctl(kind, 0, 0, poll), m) {
					t.Errorf("kind %d, m %d: not valid", kind, m)
				}
			}
			for _, m := range otherModuli {
				if c := ctl(kind, 0, 0, poll); Right(c, m) || len(Bytes(c, m)) != 0 {
					t.Errorf("kind %d, m %d: %v, % X", kind, m, Right(c, m), Bytes(c, m))
				}
			}
		}
	}
	for m := -1000; m < 70000; m++ {
		want := m == 128 || m == 32768
		if Right(ctl(api.CUA, 0, 0, false), m) != want {
			t.Errorf("a CUA with m %d: %v", m, !want)
		}
	}
}

func TestP1201RightOfKinds(t *testing.T) {
	for _, m := range moduli {
		for kind := -300; kind < 300; kind++ {
			want := slices.Contains(kinds, kind)
			for _, poll := range []bool{false, true} {
				if Right(ctl(kind, 0, 0, poll), m) != want {
					t.Errorf("kind %d, m %d: %v", kind, m, !want)
				}
			}
		}
	}
}

// TestP1201RightOfNumbers tries each kind with each of two numbers at the limits of the range.
func TestP1201RightOfNumbers(t *testing.T) {
	for _, m := range moduli {
		numbers := []int{math.MinInt, -1, 0, 1, 126, 127, 128, m - 1, m, math.MaxInt}
		for _, ns := range numbers {
			for _, nr := range numbers {
				inNs, inNr := 0 <= ns && ns < m, 0 <= nr && nr < m
				for _, kind := range kinds {
					want := ns == 0 && nr == 0
					switch kind {
					case api.CI:
						want = inNs && inNr
					case api.CRR, api.CREJ:
						want = ns == 0 && inNr
					}
					for _, poll := range []bool{false, true} {
						c := ctl(kind, ns, nr, poll)
						if Right(c, m) != want || (len(Bytes(c, m)) > 0) != want {
							t.Errorf("%v, m %d: Right %v, Bytes % X", c, m, Right(c, m), Bytes(c, m))
						}
					}
				}
			}
		}
	}
}

func TestP1201BytesOfKnown(t *testing.T) {
	for _, x := range []struct {
		c            api.Ctl
		narrow, wide string
	}{
		{ctl(api.CI, 0, 0, false), "\x00\x00", "\x00\x00\x00\x00"},
		{ctl(api.CI, 0, 0, true), "\x00\x01", "\x00\x00\x01\x00"},
		{ctl(api.CI, 1, 0, false), "\x02\x00", "\x02\x00\x00\x00"},
		{ctl(api.CI, 0, 1, false), "\x00\x02", "\x00\x00\x02\x00"},
		{ctl(api.CI, 5, 3, true), "\x0A\x07", "\x0A\x00\x07\x00"},
		{ctl(api.CI, 127, 0, false), "\xFE\x00", "\xFE\x00\x00\x00"},
		{ctl(api.CI, 0, 127, true), "\x00\xFF", "\x00\x00\xFF\x00"},
		{ctl(api.CI, 127, 127, false), "\xFE\xFE", "\xFE\x00\xFE\x00"},
		{ctl(api.CI, 128, 0, false), "", "\x00\x01\x00\x00"},
		{ctl(api.CI, 0, 128, true), "", "\x00\x00\x01\x01"},
		{ctl(api.CI, 0x1234, 0x5678, true), "", "\x68\x24\xF1\xAC"},
		{ctl(api.CI, 32767, 0, false), "", "\xFE\xFF\x00\x00"},
		{ctl(api.CI, 32767, 32767, true), "", "\xFE\xFF\xFF\xFF"},
		{ctl(api.CRR, 0, 0, false), "\x01\x00", "\x01\x00\x00\x00"},
		{ctl(api.CRR, 0, 0, true), "\x01\x01", "\x01\x00\x01\x00"},
		{ctl(api.CRR, 0, 127, true), "\x01\xFF", "\x01\x00\xFF\x00"},
		{ctl(api.CRR, 0, 128, false), "", "\x01\x00\x00\x01"},
		{ctl(api.CRR, 0, 32767, true), "", "\x01\x00\xFF\xFF"},
		{ctl(api.CREJ, 0, 0, false), "\x09\x00", "\x09\x00\x00\x00"},
		{ctl(api.CREJ, 0, 4, true), "\x09\x09", "\x09\x00\x09\x00"},
		{ctl(api.CREJ, 0, 127, false), "\x09\xFE", "\x09\x00\xFE\x00"},
		{ctl(api.CREJ, 0, 32767, false), "", "\x09\x00\xFE\xFF"},
		{ctl(api.CSABME, 0, 0, false), "\x6F", "\x6F"},
		{ctl(api.CSABME, 0, 0, true), "\x7F", "\x7F"},
		{ctl(api.CUA, 0, 0, false), "\x63", "\x63"},
		{ctl(api.CUA, 0, 0, true), "\x73", "\x73"},
		{ctl(api.CDISC, 0, 0, false), "\x43", "\x43"},
		{ctl(api.CDISC, 0, 0, true), "\x53", "\x53"},
		{ctl(api.CDM, 0, 0, false), "\x0F", "\x0F"},
		{ctl(api.CDM, 0, 0, true), "\x1F", "\x1F"},
		{ctl(api.CFRMR, 0, 0, false), "\x87", "\x87"},
		{ctl(api.CFRMR, 0, 0, true), "\x97", "\x97"},
	} {
		if got := Bytes(x.c, 128); string(got) != x.narrow {
			t.Errorf("Bytes(%v, 128) = % X, want % X", x.c, got, x.narrow)
		}
		if got := Bytes(x.c, 32768); string(got) != x.wide {
			t.Errorf("Bytes(%v, 32768) = % X, want % X", x.c, got, x.wide)
		}
	}
}

func TestP1201BytesOfValid(t *testing.T) {
	for _, m := range moduli {
		for _, c := range valid(m) {
			if got, want := Bytes(c, m), wantBytes(c, m); !bytes.Equal(got, want) {
				t.Errorf("Bytes(%v, %d) = % X, want % X", c, m, got, want)
			}
		}
	}
}

func TestP1201BytesOfEveryWideNumber(t *testing.T) {
	for n := range 32768 {
		for _, c := range []api.Ctl{
			ctl(api.CI, n, 0, n%3 == 0), ctl(api.CI, 0, n, n%5 == 0), ctl(api.CI, n, 32767-n, n%7 == 0), ctl(api.CRR, 0, n, n%3 == 1), ctl(api.CREJ, 0, n, n%5 == 1),
		} {
			if got, want := Bytes(c, 32768), wantBytes(c, 32768); !bytes.Equal(got, want) {
				t.Fatalf("Bytes(%v, 32768) = % X, want % X", c, got, want)
			}
		}
	}
}

func TestP1201BytesOfInvalid(t *testing.T) {
	for _, m := range moduli {
		for _, c := range invalid(m) {
			if got := Bytes(c, m); len(got) != 0 {
				t.Errorf("Bytes(%v, %d) = % X", c, m, got)
			}
		}
	}
	for _, m := range otherModuli {
		for _, c := range slices.Concat(invalid(128), valid(32768)) {
			if got := Bytes(c, m); len(got) != 0 || Right(c, m) {
				t.Errorf("Bytes(%v, %d) = % X, Right: %v", c, m, got, Right(c, m))
			}
		}
	}
}

func TestP1201ReadOfKnown(t *testing.T) {
	for _, x := range []struct {
		b    string
		m    int
		want result
	}{
		{"\x00\x00", 128, result{ctl(api.CI, 0, 0, false), 2, api.OK}},
		{"\x0A\x07", 128, result{ctl(api.CI, 5, 3, true), 2, api.OK}},
		{"\xFE\xFF", 128, result{ctl(api.CI, 127, 127, true), 2, api.OK}},
		{"\x0A\x07\xFF", 128, result{ctl(api.CI, 5, 3, true), 2, api.OK}},
		{"\x0A\x07\x00\x01", 32768, result{ctl(api.CI, 901, 128, false), 4, api.OK}},
		{"\x68\x24\xF1\xAC\x00", 32768, result{ctl(api.CI, 0x1234, 0x5678, true), 4, api.OK}},
		{"\xFE\xFF\xFF\xFF", 32768, result{ctl(api.CI, 32767, 32767, true), 4, api.OK}},
		{"\x00\xFF\x00\xFF", 32768, result{ctl(api.CI, 32640, 32640, false), 4, api.OK}},
		{"\x01\x01", 128, result{ctl(api.CRR, 0, 0, true), 2, api.OK}},
		{"\x01\xFE\x01", 128, result{ctl(api.CRR, 0, 127, false), 2, api.OK}},
		{"\x01\x00\xFF\xFF\x01", 32768, result{ctl(api.CRR, 0, 32767, true), 4, api.OK}},
		{"\x09\x09", 128, result{ctl(api.CREJ, 0, 4, true), 2, api.OK}},
		{"\x09\x00\x09\x01", 32768, result{ctl(api.CREJ, 0, 132, true), 4, api.OK}},
		{"\x6F", 128, result{ctl(api.CSABME, 0, 0, false), 1, api.OK}},
		{"\x7F", 32768, result{ctl(api.CSABME, 0, 0, true), 1, api.OK}},
		{"\x63\xFF\xFF\xFF\xFF", 32768, result{ctl(api.CUA, 0, 0, false), 1, api.OK}},
		{"\x53\x01", 128, result{ctl(api.CDISC, 0, 0, true), 1, api.OK}},
		{"\x0F\x00", 32768, result{ctl(api.CDM, 0, 0, false), 1, api.OK}},
		{"\x97\x97", 128, result{ctl(api.CFRMR, 0, 0, true), 1, api.OK}},
		{"", 128, failed(api.ErrShort)},
		{"", 32768, failed(api.ErrShort)},
		{"\x00", 128, failed(api.ErrShort)},
		{"\x00\x00\x00", 32768, failed(api.ErrShort)},
		{"\x03", 128, failed(api.ErrSyntax)},
		{"\x11\x00", 128, failed(api.ErrSyntax)},
		{"\x19\x00\x00\x00", 32768, failed(api.ErrSyntax)},
		{"\x05\x00", 128, failed(api.ErrSyntax)},
		{"\x6D\x00", 128, failed(api.ErrSyntax)},
		{"\xFF\xFF\xFF\xFF", 32768, failed(api.ErrSyntax)},
		{"\x01\x01\x00\x00", 32768, failed(api.ErrSyntax)},
		{"\x09\x80\x00\x00", 32768, failed(api.ErrSyntax)},
	} {
		if got := read([]byte(x.b), x.m); got != x.want {
			t.Errorf("Read(% X, %d) = %v, want %v", x.b, x.m, got, x.want)
		}
		checkRead(t, []byte(x.b), x.m)
	}
}

// TestP1201ReadOfEveryFirstByte puts up to six bytes behind each first byte.
func TestP1201ReadOfEveryFirstByte(t *testing.T) {
	for _, m := range moduli {
		for first := range 256 {
			for _, fill := range []byte{0, 1, 2, 6, 9, 0x10, 0x6F, 0x7F, 0x80, 0xFE, 0xFF} {
				for n := range 7 {
					checkRead(t, append([]byte{byte(first)}, bytes.Repeat([]byte{fill}, n)...), m)
				}
			}
			checkRead(t, []byte{byte(first), 0, 0xA5, 0x5A}, m)
			checkRead(t, []byte{byte(first), 0, 0x5A, 0xA5, 1}, m)
		}
	}
}

func TestP1201ReadOfOddFirstBytes(t *testing.T) {
	known := []byte{0x01, 0x09, 0x6F, 0x7F, 0x63, 0x73, 0x43, 0x53, 0x0F, 0x1F, 0x87, 0x97}
	for _, m := range moduli {
		for first := 1; first < 256; first += 2 {
			for n := range 5 {
				b := append([]byte{byte(first)}, make([]byte, n)...)
				_, _, e := Read(b, m)
				if slices.Contains(known, byte(first)) == (e == api.ErrSyntax) {
					t.Errorf("Read(% X, %d): error %d", b, m, e)
				}
			}
		}
	}
}

func TestP1201ReadOfEveryTwoBytes(t *testing.T) {
	for first := range 256 {
		for second := range 256 {
			checkRead(t, []byte{byte(first), byte(second)}, 128)
			checkRead(t, []byte{byte(first), byte(second)}, 32768)
			checkRead(t, []byte{byte(first), byte(second), 0x43}, 128)
			checkRead(t, []byte{byte(first), byte(second), 0x43}, 32768)
			checkRead(t, []byte{byte(first), byte(second), 0x35, 0x81}, 32768)
			checkRead(t, []byte{byte(first), byte(second), 0x34, 0x01, 0xFF}, 32768)
			checkRead(t, []byte{0xA4, 0x51, byte(first), byte(second)}, 32768)
			checkRead(t, []byte{1, 0, byte(first), byte(second)}, 32768)
			checkRead(t, []byte{9, 0, byte(first), byte(second)}, 32768)
		}
	}
}

func TestP1201ReadOfRandomBytes(t *testing.T) {
	random := rand.New(rand.NewSource(12))
	for range 200000 {
		b := make([]byte, random.Intn(7))
		random.Read(b)
		if len(b) > 1 && random.Intn(2) == 0 {
			b[0], b[1] = []byte{1, 9}[random.Intn(2)], byte(random.Intn(2))
		}
		for _, m := range moduli {
			checkRead(t, b, m)
		}
	}
}

// TestP1201ReadCutShort takes bytes off the end of each encoding, down to none.
func TestP1201ReadCutShort(t *testing.T) {
	for _, m := range moduli {
		for _, c := range valid(m) {
			b := wantBytes(c, m)
			for n := range b {
				if got := read(b[:n], m); got != failed(api.ErrShort) {
					t.Errorf("Read(% X, %d), of % X: %v", b[:n], m, b, got)
				}
			}
		}
	}
}

func TestP1201ReadWithMoreBehind(t *testing.T) {
	for _, m := range moduli {
		for _, c := range valid(m) {
			b := wantBytes(c, m)
			for _, behind := range []string{"\x00", "\x01", "\xFF", "\x03\x03", "\x6F\x00\x00\x00", "a message", string(b)} {
				all := append(slices.Clone(b), behind...)
				if got, want := read(all, m), (result{c, len(b), api.OK}); got != want {
					t.Errorf("Read(% X, %d) = %v, want %v", all, m, got, want)
				}
			}
		}
	}
	long := append([]byte{0xFE, 0x01}, make([]byte, 1<<20)...)
	if got, want := read(long, 128), (result{ctl(api.CI, 127, 0, true), 2, api.OK}); got != want {
		t.Errorf("with a long message: %v, want %v", got, want)
	}
}

func TestP1201ReadOfOtherModuli(t *testing.T) {
	for _, m := range otherModuli {
		for _, b := range []string{"", "\x00", "\x00\x00", "\x00\x00\x00\x00", "\x6F", "\x03", "\x01\x00", "\x01\x01", "\x01\x01\x00\x00", "\xFF\xFF\xFF\xFF"} {
			if got := read([]byte(b), m); got != failed(api.ErrArg) {
				t.Errorf("Read(% X, %d) = %v", b, m, got)
			}
		}
	}
	for m := -1000; m < 70000; m++ {
		checkRead(t, []byte{0x63}, m)
		checkRead(t, nil, m)
	}
}

// TestP1201ReadReturnsTheFirstError gives Read bytes to which two errors apply.
func TestP1201ReadReturnsTheFirstError(t *testing.T) {
	for _, x := range []struct {
		b    string
		m    int
		want api.Errno
	}{
		// The modulus ahead of everything.
		{"", 127, api.ErrArg},
		{"", 0, api.ErrArg},
		{"\x03", 129, api.ErrArg},
		{"\x00", -128, api.ErrArg},
		{"\x01\x01\x00\x00", 32767, api.ErrArg},
		// A first byte that belongs to nothing ahead of what is missing.
		{"\x03", 128, api.ErrSyntax},
		{"\x03", 32768, api.ErrSyntax},
		{"\x11", 128, api.ErrSyntax},
		{"\x19", 32768, api.ErrSyntax},
		{"\x19\x00\x00", 32768, api.ErrSyntax},
		{"\xFF", 128, api.ErrSyntax},
		{"\xFF\xFF\xFF", 32768, api.ErrSyntax},
		// What is missing ahead of a wrong second byte.
		{"\x01\x01", 32768, api.ErrShort},
		{"\x01\xFF\x00", 32768, api.ErrShort},
		{"\x09\x01", 32768, api.ErrShort},
		{"\x09\x80\xFF", 32768, api.ErrShort},
		// Without a wrong second byte, or with nothing missing.
		{"\x01\x00", 32768, api.ErrShort},
		{"\x09\x00\x00", 32768, api.ErrShort},
		{"\x01\x01\x00\x00", 32768, api.ErrSyntax},
		{"\x09\xFF\x00\x00\x00", 32768, api.ErrSyntax},
	} {
		if got := read([]byte(x.b), x.m); got != failed(x.want) {
			t.Errorf("Read(% X, %d) = %v, want the error %d alone", x.b, x.m, got, x.want)
		}
	}
}

func TestP1201ReadOfSecondBytes(t *testing.T) {
	for _, first := range []byte{1, 9} {
		kind := api.CRR
		if first == 9 {
			kind = api.CREJ
		}
		for second := range 256 {
			b := []byte{first, byte(second), 0xFF, 0x7F, 0x00}
			want := result{ctl(kind, 0, 16383, true), 4, api.OK}
			if second != 0 {
				want = failed(api.ErrSyntax)
			}
			for _, n := range []int{4, 5} {
				if got := read(b[:n], 32768); got != want {
					t.Errorf("Read(% X, 32768) = %v, want %v", b[:n], got, want)
				}
			}
			for _, n := range []int{2, 3} {
				if got := read(b[:n], 32768); got != failed(api.ErrShort) {
					t.Errorf("Read(% X, 32768) = %v", b[:n], got)
				}
			}
			// With m 128 the second byte is the number.
			if got, want := read(b, 128), (result{ctl(kind, 0, second/2, second%2 == 1), 2, api.OK}); got != want {
				t.Errorf("Read(% X, 128) = %v, want %v", b, got, want)
			}
		}
	}
}

func TestP1202ReadOfBytes(t *testing.T) {
	for _, m := range moduli {
		for _, c := range valid(m) {
			b := Bytes(c, m)
			if got, want := read(b, m), (result{c, len(b), api.OK}); got != want || len(b) == 0 {
				t.Errorf("Read(Bytes(%v, %d)) = %v, want %v", c, m, got, want)
			}
		}
	}
	random := rand.New(rand.NewSource(1202))
	for range 200000 {
		c := ctl(api.CI, random.Intn(32768), random.Intn(32768), random.Intn(2) == 0)
		if got, want := read(Bytes(c, 32768), 32768), (result{c, 4, api.OK}); got != want {
			t.Errorf("Read(Bytes(%v, 32768)) = %v, want %v", c, got, want)
		}
	}
}

// TestP1202BytesOfRead reads bytes, and looks whether what was read is valid and encoded by just these bytes.
func TestP1202BytesOfRead(t *testing.T) {
	random := rand.New(rand.NewSource(2112))
	for step := range 200000 {
		b := make([]byte, 1+random.Intn(6))
		random.Read(b)
		b[0] = byte(step)
		for _, m := range moduli {
			c, n, e := Read(b, m)
			if e == api.OK && (!Right(c, m) || !bytes.Equal(Bytes(c, m), b[:n])) {
				t.Errorf("Read(% X, %d) = %v, %d; Bytes of that: % X", b, m, c, n, Bytes(c, m))
			}
		}
	}
}

func TestP1202EncodingsAreDifferent(t *testing.T) {
	for _, m := range moduli {
		encoded := map[string]api.Ctl{}
		for _, c := range valid(m) {
			b := string(Bytes(c, m))
			if other, ok := encoded[b]; ok && other != c {
				t.Errorf("m %d: %v and %v are both % X", m, c, other, b)
			}
			encoded[b] = c
		}
		for b, c := range encoded {
			for n := range len(b) {
				if other, ok := encoded[b[:n]]; ok {
					t.Errorf("m %d: % X of %v begins with % X of %v", m, b, c, b[:n], other)
				}
			}
		}
	}
}

// TestP1202ReadOfManyInARow takes control fields one after the other from the encodings of many.
func TestP1202ReadOfManyInARow(t *testing.T) {
	random := rand.New(rand.NewSource(21))
	for _, m := range moduli {
		all := valid(m)
		random.Shuffle(len(all), func(i, k int) { all[i], all[k] = all[k], all[i] })
		var b []byte
		for _, c := range all {
			b = append(b, Bytes(c, m)...)
		}
		for i, c := range all {
			got, n, e := Read(b, m)
			if got != c || n < 1 || n > len(b) || e != api.OK {
				t.Fatalf("m %d: %v, %d, %d in place %d, want %v", m, got, n, e, i, c)
			}
			b = b[n:]
		}
		if len(b) != 0 {
			t.Errorf("m %d: % X is left", m, b)
		}
	}
}

// spare returns b with spare capacity behind it, and the whole memory.
func spare(b []byte) (given, memory []byte) {
	memory = append(slices.Clone(b), 0xA1, 0xA2, 0xA3, 0xA4, 0xA5)
	return memory[:len(b)], memory
}

// arguments holds encodings, parts of them, and bytes that are none.
func arguments() [][]byte {
	all := [][]byte{nil, {}}
	for _, m := range moduli {
		for _, c := range []api.Ctl{ctl(api.CI, 5, 3, true), ctl(api.CI, m-1, m-1, false), ctl(api.CRR, 0, m-1, true), ctl(api.CREJ, 0, 7, false), ctl(api.CUA, 0, 0, true), ctl(api.CFRMR, 0, 0, false)} {
			b := wantBytes(c, m)
			for n := range b {
				all = append(all, b[:n+1])
			}
			all = append(all, append(slices.Clone(b), "more"...))
		}
	}
	return append(all, []byte{3}, []byte{0x11, 0}, []byte{1, 1, 0, 0}, []byte{9, 9, 9}, []byte{0xFF, 0xFF, 0xFF, 0xFF})
}

func TestP102ArgumentsAreNotModified(t *testing.T) {
	for _, b := range arguments() {
		for _, m := range []int{128, 32768, 5} {
			given, memory := spare(b)
			before := slices.Clone(memory)
			Read(given, m)
			if !bytes.Equal(memory, before) {
				t.Errorf("Read(% X, %d) makes the bytes % X of % X", b, m, memory, before)
			}
		}
	}
}

func TestP102SpareCapacityDoesNotMatter(t *testing.T) {
	for _, b := range arguments() {
		for _, m := range moduli {
			given, _ := spare(b)
			if got, want := read(given, m), read(slices.Clip(slices.Clone(b)), m); got != want {
				t.Errorf("Read(% X, %d) with spare capacity: %v, without: %v", b, m, got, want)
			}
		}
	}
}

func TestP102NilAndEmptyAreEquivalent(t *testing.T) {
	for _, m := range slices.Concat(moduli, otherModuli) {
		if read(nil, m) != read([]byte{}, m) {
			t.Errorf("m %d: nil: %v, no bytes: %v", m, read(nil, m), read([]byte{}, m))
		}
	}
}

func TestP102ResultsShareNoMemory(t *testing.T) {
	for _, m := range moduli {
		for _, c := range valid(m) {
			first, second := Bytes(c, m), Bytes(c, m)
			whole := first[:cap(first)]
			for i := range whole {
				whole[i] ^= 0xFF
			}
			if want := wantBytes(c, m); !bytes.Equal(second, want) || !bytes.Equal(Bytes(c, m), want) {
				t.Errorf("Bytes(%v, %d) changes with an earlier result", c, m)
			}
		}
	}
}

// TestP102ResultsDoNotDependOnOtherCalls calls all functions by turns from several goroutines, in two orders.
func TestP102ResultsDoNotDependOnOtherCalls(t *testing.T) {
	all := arguments()
	right, wrong := valid(32768), invalid(32768)
	var joined sync.WaitGroup
	for worker := range 4 {
		joined.Go(func() {
			for step := range 4000 {
				if worker%2 == 1 {
					step = 3999 - step
				}
				c, bad := right[step%len(right)], wrong[step%len(wrong)]
				if got, want := Bytes(c, 32768), wantBytes(c, 32768); !bytes.Equal(got, want) || !Right(c, 32768) {
					t.Errorf("Bytes(%v, 32768) = % X, want % X", c, got, want)
				}
				if got := Bytes(bad, 32768); len(got) != 0 || Right(bad, 32768) {
					t.Errorf("Bytes(%v, 32768) = % X", bad, got)
				}
				checkRead(t, all[step%len(all)], moduli[step/len(all)%2])
			}
		})
	}
	joined.Wait()
}
