package fcs

import (
	"bytes"
	"hash/crc32"
	"math/rand"
	"slices"
	"strings"
	"sync"
	"testing"

	"signalman/api"
)

var widths = []bool{false, true}

// samples holds the empty bytes, every single byte, and longer ones of many lengths.
func samples() [][]byte {
	all := [][]byte{nil, {}, []byte("123456789"), {0x7E}, {0x7D, 0x5E}}
	for c := range 256 {
		all = append(all, []byte{byte(c)})
	}
	random := rand.New(rand.NewSource(2))
	for n := 2; n <= 70; n++ {
		b := make([]byte, n)
		random.Read(b)
		all = append(all, b, make([]byte, n), bytes.Repeat([]byte{0xFF}, n))
	}
	for _, n := range []int{255, 256, 257, 1000, 65535, 65536, 65537} {
		b := make([]byte, n)
		random.Read(b)
		all = append(all, b)
	}
	return all
}

// wantShort divides by x^16 + x^12 + x^5 + 1, highest power first, the lowest bit of each byte first.
func wantShort(b []byte) uint16 {
	var register uint16 = 0xFFFF
	for _, c := range b {
		for i := range 8 {
			top := register >> 15
			register <<= 1
			if top != uint16(c>>i&1) {
				register ^= 1<<12 | 1<<5 | 1
			}
		}
	}
	var reversed uint16
	for i := range 16 {
		reversed |= (register >> i & 1) << (15 - i)
	}
	return ^reversed
}

func wantSum(b []byte, wide bool) []byte {
	if wide {
		s := crc32.ChecksumIEEE(b)
		return []byte{byte(s), byte(s >> 8), byte(s >> 16), byte(s >> 24)}
	}
	s := wantShort(b)
	return []byte{byte(s), byte(s >> 8)}
}

func TestP201KnownSums(t *testing.T) {
	for _, c := range []struct {
		text  string
		short uint16
		long  uint32
	}{
		{"", 0, 0},
		{"123456789", 0x906E, 0xCBF43926},
		{"\x00", 0xF078, 0xD202EF8D},
		{"\xFF", 0xFF00, 0xFF000000},
		{"\xFF\xFF", 0xFFFF, 0xFFFF0000},
		{"\xFF\xFF\xFF\xFF", 0xF0B8 ^ 0xFFFF, 0xFFFFFFFF},
	} {
		b := []byte(c.text)
		if got := Long(b); got != c.long {
			t.Errorf("Long(%q) = %08X, want %08X", c.text, got, c.long)
		}
		if got := Short(b); got != c.short {
			t.Errorf("Short(%q) = %04X, want %04X", c.text, got, c.short)
		}
	}
}

func TestP201SumsOfAllSamples(t *testing.T) {
	for _, b := range samples() {
		if got, want := Short(b), wantShort(b); got != want {
			t.Errorf("Short of %d bytes = %04X, want %04X", len(b), got, want)
		}
		if got, want := Long(b), crc32.ChecksumIEEE(b); got != want {
			t.Errorf("Long of %d bytes = %08X, want %08X", len(b), got, want)
		}
	}
}

// The sum of bytes that end in their own sum is the same for all bytes (RFC 1662, appendix C).
func TestP201SumOverItsOwnSum(t *testing.T) {
	for _, b := range samples() {
		if got := Short(Put(b, false)); got != 0xF0B8^0xFFFF {
			t.Errorf("%d bytes: %04X", len(b), got)
		}
		if got := Long(Put(b, true)); got != 0xDEBB20E3^0xFFFFFFFF {
			t.Errorf("%d bytes: %08X", len(b), got)
		}
	}
}

func TestP201PutOfKnownBytes(t *testing.T) {
	for _, c := range []struct {
		text string
		wide bool
		want string
	}{
		{"", false, "\x00\x00"},
		{"", true, "\x00\x00\x00\x00"},
		{"123456789", false, "123456789\x6E\x90"},
		{"123456789", true, "123456789\x26\x39\xF4\xCB"},
		{"\x00", false, "\x00\x78\xF0"},
		{"\x00", true, "\x00\x8D\xEF\x02\xD2"},
	} {
		if got := Put([]byte(c.text), c.wide); string(got) != c.want {
			t.Errorf("Put(%q, %t) = %q, want %q", c.text, c.wide, got, c.want)
		}
	}
}

func TestP201PutOfAllSamples(t *testing.T) {
	for _, b := range samples() {
		for _, wide := range widths {
			want := append(slices.Clone(b), wantSum(b, wide)...)
			if got := Put(b, wide); !bytes.Equal(got, want) {
				t.Errorf("Put of %d bytes, wide %t: a wrong sum or wrong bytes before it", len(b), wide)
			}
		}
	}
}

func TestP201CheckOfKnownBytes(t *testing.T) {
	for _, c := range []struct {
		text string
		wide bool
		want string
		e    api.Errno
	}{
		{"\x00\x00", false, "", api.OK},
		{"\x00\x00\x00\x00", true, "", api.OK},
		{"123456789\x6E\x90", false, "123456789", api.OK},
		{"123456789\x26\x39\xF4\xCB", true, "123456789", api.OK},
		{"123456789\x90\x6E", false, "", api.ErrSyntax},
		{"123456789\xCB\xF4\x39\x26", true, "", api.ErrSyntax},
		{"123456789\x91\x6F", false, "", api.ErrSyntax},
		{"123456789\xD9\xC6\x0B\x34", true, "", api.ErrSyntax},
		{"123456789\x6E\x90", true, "", api.ErrSyntax},
		{"123456789\x26\x39\xF4\xCB", false, "", api.ErrSyntax},
		{"123456789", false, "", api.ErrSyntax},
		{"123456789", true, "", api.ErrSyntax},
		{"\xFF\xFF", false, "", api.ErrSyntax},
		{"\xFF\xFF\xFF\xFF", true, "", api.ErrSyntax},
		{"\x00\x00\x00", false, "", api.ErrSyntax},
		{"\x00\x00\x00\x00\x00", true, "", api.ErrSyntax},
	} {
		got, e := Check([]byte(c.text), c.wide)
		if e != c.e || string(got) != c.want {
			t.Errorf("Check(%q, %t) = %q, %d, want %q, %d", c.text, c.wide, got, e, c.want, c.e)
		}
	}
}

func TestP201CheckOfTooFewBytes(t *testing.T) {
	for _, wide := range widths {
		if got, e := Check(nil, wide); e != api.ErrShort || len(got) != 0 {
			t.Errorf("Check(nil, %t) = %v, %d", wide, got, e)
		}
		// The right sum stands behind the bytes that are given, in their spare capacity.
		for _, whole := range [][]byte{Put(nil, wide), Put([]byte{0xA5}, wide), bytes.Repeat([]byte{0xFF}, 8)} {
			for n := range len(wantSum(nil, wide)) {
				if got, e := Check(whole[:n], wide); e != api.ErrShort || len(got) != 0 {
					t.Errorf("Check(%v, %t) = %v, %d, want ErrShort", whole[:n], wide, got, e)
				}
			}
		}
	}
}

func TestP201CheckOfEveryShortSum(t *testing.T) {
	body := []byte("link")
	right := wantShort(body)
	for sum := range 1 << 16 {
		got, e := Check(append(slices.Clone(body), byte(sum), byte(sum>>8)), false)
		if uint16(sum) == right {
			if e != api.OK || !bytes.Equal(got, body) {
				t.Errorf("the right sum: %q, %d", got, e)
			}
		} else if e != api.ErrSyntax || len(got) != 0 {
			t.Errorf("the wrong sum %04X: %q, %d", sum, got, e)
		}
	}
}

func TestP201CheckOfEveryByteOfLongSum(t *testing.T) {
	body := []byte("link")
	for i := len(body); i < len(body)+4; i++ {
		for c := range 256 {
			b := Put(body, true)
			right := b[i] == byte(c)
			b[i] = byte(c)
			got, e := Check(b, true)
			if right && (e != api.OK || !bytes.Equal(got, body)) {
				t.Errorf("the right sum: %q, %d", got, e)
			}
			if !right && (e != api.ErrSyntax || len(got) != 0) {
				t.Errorf("byte %d of the sum is %02X: %q, %d", i, c, got, e)
			}
		}
	}
}

// A CRC detects every burst of errors that is no longer than the sum: here a single bit, or two.
func TestP201CheckOfTurnedBits(t *testing.T) {
	for _, wide := range widths {
		good := Put([]byte("a protected link"), wide)
		bits := 8 * len(good)
		for first := range bits {
			for last := first; last < min(first+8*len(wantSum(nil, wide)), bits); last++ {
				b := slices.Clone(good)
				b[first/8] ^= 1 << (first % 8)
				if last != first {
					b[last/8] ^= 1 << (last % 8)
				}
				if got, e := Check(b, wide); e != api.ErrSyntax || len(got) != 0 {
					t.Errorf("wide %t, bits %d and %d turned: %q, %d", wide, first, last, got, e)
				}
			}
		}
	}
}

func TestP202CheckOfPut(t *testing.T) {
	for _, b := range samples() {
		for _, wide := range widths {
			if got, e := Check(Put(b, wide), wide); e != api.OK || !bytes.Equal(got, b) {
				t.Errorf("%d bytes, wide %t: %d bytes, %d", len(b), wide, len(got), e)
			}
		}
	}
}

func TestP202CheckOfPutOfPut(t *testing.T) {
	for _, outer := range widths {
		for _, inner := range widths {
			b := []byte("123456789")
			once, e1 := Check(Put(Put(b, inner), outer), outer)
			twice, e2 := Check(once, inner)
			if e1 != api.OK || e2 != api.OK || !bytes.Equal(twice, b) {
				t.Errorf("wide %t in wide %t: %q, %d, %d", inner, outer, twice, e1, e2)
			}
		}
	}
}

// spare returns b with 16 bytes of spare capacity, and all the memory of it.
func spare(b []byte) (given, memory []byte) {
	memory = append(slices.Clone(b), bytes.Repeat([]byte{0xA7}, 16)...)
	return memory[:len(b):len(memory)], memory
}

// calls holds each function as one that returns the bytes of its answer, if it has any.
var calls = []struct {
	name string
	call func(b []byte) []byte
}{
	{"Short", func(b []byte) []byte { Short(b); return nil }},
	{"Long", func(b []byte) []byte { Long(b); return nil }},
	{"Put", func(b []byte) []byte { return Put(b, false) }},
	{"Put wide", func(b []byte) []byte { return Put(b, true) }},
	{"Check", func(b []byte) []byte { x, _ := Check(b, false); return x }},
	{"Check wide", func(b []byte) []byte { x, _ := Check(b, true); return x }},
}

// arguments holds good and bad bytes of both widths.
func arguments() [][]byte {
	var all [][]byte
	for _, text := range []string{"", "a", "123456789", strings.Repeat("x", 64), strings.Repeat("y", 4096)} {
		b := []byte(text)
		all = append(all, b, Put(b, false), Put(b, true))
	}
	return all
}

func fill(b []byte, c byte) {
	for i := range b {
		b[i] = c
	}
}

func TestP102ArgumentsAreNotModified(t *testing.T) {
	for _, b := range arguments() {
		for _, c := range calls {
			given, memory := spare(b)
			before := slices.Clone(memory)
			c.call(given)
			if !bytes.Equal(memory, before) {
				t.Errorf("%s of %d bytes modified its argument or the spare capacity behind it", c.name, len(b))
			}
		}
	}
}

func TestP102ResultsShareNoMemoryWithArguments(t *testing.T) {
	for _, b := range arguments() {
		for _, c := range calls {
			given, memory := spare(b)
			got := c.call(given)
			before := slices.Clone(got)
			was := slices.Clone(memory)
			fill(got[:cap(got)], 0x11)
			if !bytes.Equal(memory, was) {
				t.Errorf("%s of %d bytes: writing to the result changed the argument", c.name, len(b))
			}
			copy(got, before)
			fill(memory, 0x22)
			if !bytes.Equal(got, before) {
				t.Errorf("%s of %d bytes: writing to the argument changed the result", c.name, len(b))
			}
		}
	}
}

func TestP102ResultsShareNoMemoryWithEachOther(t *testing.T) {
	for _, b := range arguments() {
		for _, c := range calls {
			first, second := c.call(b), c.call(b)
			before := slices.Clone(second)
			fill(first[:cap(first)], 0x33)
			if !bytes.Equal(second, before) || !bytes.Equal(c.call(b), before) {
				t.Errorf("%s of %d bytes: writing to a result changed another", c.name, len(b))
			}
		}
	}
}

func TestP102SpareCapacityDoesNotMatter(t *testing.T) {
	for _, b := range arguments() {
		for _, c := range calls {
			given, _ := spare(b)
			if !bytes.Equal(c.call(given), c.call(slices.Clip(b))) {
				t.Errorf("%s of %d bytes depends on the capacity", c.name, len(b))
			}
		}
	}
}

func TestP102NilAndEmptyAreEquivalent(t *testing.T) {
	if Short(nil) != Short([]byte{}) || Long(nil) != Long([]byte{}) {
		t.Error("the sums of nil and of no bytes differ")
	}
	for _, wide := range widths {
		if !bytes.Equal(Put(nil, wide), Put([]byte{}, wide)) {
			t.Errorf("Put, wide %t: nil and no bytes differ", wide)
		}
		_, e1 := Check(nil, wide)
		_, e2 := Check([]byte{}, wide)
		if e1 != e2 {
			t.Errorf("Check, wide %t: nil: %d, no bytes: %d", wide, e1, e2)
		}
	}
}

type answers struct {
	short            uint16
	long             uint32
	put, putWide     string
	body, bodyWide   string
	errno, errnoWide api.Errno
}

func ask(b []byte) answers {
	narrow, e1 := Check(b, false)
	wide, e2 := Check(b, true)
	return answers{Short(b), Long(b), string(Put(b, false)), string(Put(b, true)), string(narrow), string(wide), e1, e2}
}

func TestP102ResultsDoNotDependOnOtherCalls(t *testing.T) {
	all := arguments()
	first := make([]answers, len(all))
	for i, b := range all {
		first[i] = ask(b)
	}
	var joined sync.WaitGroup
	for worker := range 4 {
		joined.Go(func() {
			for step := range 2 * len(all) {
				i := step % len(all)
				if worker%2 == 1 {
					i = len(all) - 1 - i
				}
				if got := ask(all[i]); got != first[i] {
					t.Errorf("%d bytes: %v, but %v at first", len(all[i]), got, first[i])
				}
			}
		})
	}
	joined.Wait()
}
