package bits

import (
	"bytes"
	"math/rand"
	"slices"
	"strings"
	"sync"
	"testing"

	"signalman/api"
)

// row makes bits of a text of digits.
func row(text string) []byte {
	l := []byte(text)
	for i := range l {
		l[i] -= '0'
	}
	return l
}

// text is the inverse of row for 0s and 1s; all other elements show as '?', so that no result with such an element is taken for one of bits.
func text(l []byte) string {
	var out strings.Builder
	for _, c := range l {
		switch c {
		case 0:
			out.WriteByte('0')
		case 1:
			out.WriteByte('1')
		default:
			out.WriteByte('?')
		}
	}
	return out.String()
}

// rows returns all sequences of at most n 0s and 1s.
func rows(n int) [][]byte {
	var all [][]byte
	for length := range n + 1 {
		for number := range 1 << length {
			l := make([]byte, length)
			for i := range l {
				l[i] = byte(number >> i & 1)
			}
			all = append(all, l)
		}
	}
	return all
}

// samples holds no bits, all short sequences, long runs, and random bits in which 1s are rare, even or frequent.
func samples() [][]byte {
	all := append(rows(14), nil)
	for _, n := range []int{15, 16, 64, 1000, 65536} {
		all = append(all, bytes.Repeat([]byte{0}, n), bytes.Repeat([]byte{1}, n))
		all = append(all, row(strings.Repeat("111110", n)), row(strings.Repeat("1111011111", n)))
	}
	random := rand.New(rand.NewSource(4))
	for n := range 200 {
		for _, ones := range []int{10, 50, 90} {
			l := make([]byte, 1+n*3)
			for i := range l {
				if random.Intn(100) < ones {
					l[i] = 1
				}
			}
			all = append(all, l)
		}
	}
	return all
}

// disguised returns l with other values in place of its 1s.
func disguised(l []byte, seed int64) []byte {
	random := rand.New(rand.NewSource(seed))
	out := slices.Clone(l)
	for i, c := range out {
		if c != 0 {
			out[i] = byte(1 + random.Intn(255))
		}
	}
	return out
}

// someBytes holds no bytes, every byte, all pairs of few bytes and random bytes.
func someBytes() [][]byte {
	all := [][]byte{nil, {}}
	for c := range 256 {
		all = append(all, []byte{byte(c)})
	}
	few := []byte{0, 1, 0x80, 0x7E, 0x7F, 0xFF, 0xF8, 0x1F, 0x55}
	for _, first := range few {
		for _, second := range few {
			all = append(all, []byte{first, second})
		}
	}
	random := rand.New(rand.NewSource(5))
	for n := range 100 {
		b := make([]byte, 1+n*n)
		random.Read(b)
		all = append(all, b)
	}
	return all
}

// wantOf tells the bits by division.
func wantOf(b []byte) []byte {
	var want []byte
	for _, c := range b {
		number := int(c)
		for range 8 {
			want = append(want, byte(number%2))
			number /= 2
		}
	}
	return want
}

// wantStuff replaces from left to right, and never within what it replaced.
func wantStuff(l []byte) []byte {
	return row(strings.ReplaceAll(text(l), "11111", "111110"))
}

// wantUnstuff cuts at every five 1s and asks what begins the rest.
func wantUnstuff(l []byte) ([]byte, api.Errno) {
	var want strings.Builder
	rest := text(l)
	for {
		before, after, found := strings.Cut(rest, "11111")
		want.WriteString(before)
		if !found {
			return row(want.String()), api.OK
		}
		want.WriteString("11111")
		if after == "" {
			return nil, api.ErrShort
		}
		if after[0] == '1' {
			return nil, api.ErrAbort
		}
		rest = after[1:]
	}
}

func TestP401OfKnownBytes(t *testing.T) {
	for _, c := range []struct {
		b    []byte
		want string
	}{
		{nil, ""},
		{[]byte{}, ""},
		{[]byte{0}, "00000000"},
		{[]byte{1}, "10000000"},
		{[]byte{2}, "01000000"},
		{[]byte{0x80}, "00000001"},
		{[]byte{0x7E}, "01111110"},
		{[]byte{0x35}, "10101100"},
		{[]byte{0xFF, 0, 0x0F}, "111111110000000011110000"},
		{[]byte{1, 0x80}, "1000000000000001"},
	} {
		if got := text(Of(c.b)); got != c.want {
			t.Errorf("Of(%X) = %s, want %s", c.b, got, c.want)
		}
		if got, e := Bytes(row(c.want)); e != api.OK || !bytes.Equal(got, c.b) {
			t.Errorf("Bytes(%s) = %X, %d, want %X", c.want, got, e, c.b)
		}
	}
}

func TestP401OfAllBytes(t *testing.T) {
	for _, b := range someBytes() {
		if got, want := Of(b), wantOf(b); !bytes.Equal(got, want) {
			t.Errorf("Of %d bytes, %.8X..: %d bits, %.64s.., want %.64s..", len(b), b, len(got), text(got), text(want))
		}
	}
}

func TestP401BytesOfOtherElements(t *testing.T) {
	if got, e := Bytes([]byte{2, 0, 0, 255, 0, 128, 0, 16}); e != api.OK || !bytes.Equal(got, []byte{0xA9}) {
		t.Errorf("Bytes of other elements: %X, %d", got, e)
	}
	for c := 1; c < 256; c++ {
		for at := range 8 {
			l := make([]byte, 16)
			l[8+at] = byte(c)
			if got, e := Bytes(l); e != api.OK || !bytes.Equal(got, []byte{0, 1 << at}) {
				t.Errorf("%d as bit %d: %X, %d", c, at, got, e)
			}
		}
	}
	for i, b := range someBytes() {
		if got, e := Bytes(disguised(Of(b), int64(i))); e != api.OK || !bytes.Equal(got, b) {
			t.Errorf("Bytes of the bits of %d bytes with other elements: %.8X.., %d", len(b), got, e)
		}
	}
}

func TestP401BytesOfAnIncompleteByte(t *testing.T) {
	for n := range 100 {
		for _, c := range []byte{0, 1, 255} {
			got, e := Bytes(bytes.Repeat([]byte{c}, n))
			if n%8 == 0 {
				if e != api.OK || len(got) != n/8 {
					t.Errorf("Bytes of %d bits: %X, %d", n, got, e)
				}
			} else if e != api.ErrSyntax || len(got) != 0 {
				t.Errorf("Bytes of %d bits: %X, %d, want ErrSyntax", n, got, e)
			}
		}
	}
}

func TestP401StuffOfKnownBits(t *testing.T) {
	for _, c := range []struct{ bits, want string }{
		{"", ""},
		{"0", "0"},
		{"1", "1"},
		{"1111", "1111"},
		{"11110", "11110"},
		{"11111", "111110"},
		{"111110", "1111100"},
		{"111111", "1111101"},
		{"1111111111", "111110111110"},
		{"11111111110", "1111101111100"},
		{"011110111101", "011110111101"},
		{"0111111011", "01111101011"},
		{"111110111110", "11111001111100"},
		{"0011111", "00111110"},
		{"111101", "111101"},
		{"111111111111", "11111011111011"},
	} {
		if got := text(Stuff(row(c.bits))); got != c.want {
			t.Errorf("Stuff(%s) = %s, want %s", c.bits, got, c.want)
		}
		if got, e := Unstuff(row(c.want)); e != api.OK || text(got) != c.bits {
			t.Errorf("Unstuff(%s) = %s, %d, want %s", c.want, text(got), e, c.bits)
		}
	}
}

func TestP401StuffOfAllSamples(t *testing.T) {
	for i, l := range samples() {
		want := wantStuff(l)
		if got := Stuff(l); !bytes.Equal(got, want) {
			t.Errorf("Stuff of %d bits, %.20s..: %.40s.., want %.40s..", len(l), text(l), text(got), text(want))
		}
		if got := Stuff(disguised(l, int64(i))); !bytes.Equal(got, want) {
			t.Errorf("Stuff of %d bits with other elements, %.20s..: %.40s.., want %.40s..", len(l), text(l), text(got), text(want))
		}
	}
}

func TestP401UnstuffReturnsTheFirstError(t *testing.T) {
	for _, c := range []struct {
		bits string
		want api.Errno
	}{
		{"11111", api.ErrShort},
		{"011111", api.ErrShort},
		{"111101111011111", api.ErrShort},
		{"11111011111", api.ErrShort},
		{"111110011111", api.ErrShort},
		{"111111", api.ErrAbort},
		{"0111111", api.ErrAbort},
		{"01111110", api.ErrAbort},
		{"1111111", api.ErrAbort},
		{"111110111111", api.ErrAbort},
		{"11111101", api.ErrAbort},
		{"11111111111", api.ErrAbort},
		// Of several errors, the first.
		{"111111011111", api.ErrAbort},
		{"1111110111111", api.ErrAbort},
		{"11111011111101111101111", api.ErrAbort},
		{"1111111111", api.ErrAbort},
	} {
		if got, e := Unstuff(row(c.bits)); e != c.want || len(got) != 0 {
			t.Errorf("Unstuff(%s) = %s, %d, want %d", c.bits, text(got), e, c.want)
		}
	}
}

func TestP401UnstuffOfOtherElements(t *testing.T) {
	for c := 1; c < 256; c++ {
		one := byte(c)
		if got, e := Unstuff([]byte{one}); e != api.OK || text(got) != "1" {
			t.Errorf("Unstuff of %d: %v, %d", c, got, e)
		}
		if got, e := Unstuff([]byte{1, 1, 1, 1, one, 0, one}); e != api.OK || text(got) != "111111" {
			t.Errorf("%d as the fifth 1: %v, %d", c, got, e)
		}
		if got, e := Unstuff([]byte{1, 1, 1, 1, 1, one}); e != api.ErrAbort || len(got) != 0 {
			t.Errorf("%d after five 1s: %v, %d", c, got, e)
		}
		if got, e := Unstuff([]byte{one, one, one, one, one}); e != api.ErrShort || len(got) != 0 {
			t.Errorf("five times %d: %v, %d", c, got, e)
		}
	}
}

// What is behind the bits that are given, in their spare capacity, is not read.
func TestP401UnstuffEndsAtTheEnd(t *testing.T) {
	for _, behind := range []byte{0, 1} {
		whole := append(row("11111"), behind)
		if got, e := Unstuff(whole[:5]); e != api.ErrShort || len(got) != 0 {
			t.Errorf("five 1s, %d behind them: %v, %d", behind, got, e)
		}
		if got, e := Unstuff(whole[:4]); e != api.OK || text(got) != "1111" {
			t.Errorf("four 1s, a 1 behind them: %v, %d", got, e)
		}
	}
}

func TestP401UnstuffOfAllSamples(t *testing.T) {
	for i, l := range samples() {
		want, wantErrno := wantUnstuff(l)
		for _, given := range [][]byte{l, disguised(l, int64(i))} {
			if got, e := Unstuff(given); e != wantErrno || !bytes.Equal(got, want) {
				t.Errorf("Unstuff of %d bits, %.20s..: %.40s.., %d, want %.40s.., %d", len(l), text(l), text(got), e, text(want), wantErrno)
			}
		}
	}
}

func TestP402BytesOfOf(t *testing.T) {
	for _, b := range someBytes() {
		if got, e := Bytes(Of(b)); e != api.OK || !bytes.Equal(got, b) {
			t.Errorf("%d bytes, %.8X..: %d bytes, %.8X.., %d", len(b), b, len(got), got, e)
		}
	}
}

func TestP402OfOfBytes(t *testing.T) {
	for _, l := range samples() {
		if len(l)%8 != 0 {
			continue
		}
		b, e := Bytes(l)
		if got := Of(b); e != api.OK || !bytes.Equal(got, l) {
			t.Errorf("%d bits, %.40s..: %.40s.., %d", len(l), text(l), text(got), e)
		}
	}
}

func TestP402UnstuffOfStuff(t *testing.T) {
	for i, l := range samples() {
		if got, e := Unstuff(Stuff(l)); e != api.OK || !bytes.Equal(got, l) {
			t.Errorf("%d bits, %.40s..: %.40s.., %d", len(l), text(l), text(got), e)
		}
		if got, e := Unstuff(Stuff(disguised(l, int64(i)))); e != api.OK || !bytes.Equal(got, l) {
			t.Errorf("%d bits with other elements, %.40s..: %.40s.., %d", len(l), text(l), text(got), e)
		}
	}
}

func TestP402BytesThroughAllFour(t *testing.T) {
	for _, b := range someBytes() {
		plain, e1 := Unstuff(Stuff(Of(b)))
		got, e2 := Bytes(plain)
		if e1 != api.OK || e2 != api.OK || !bytes.Equal(got, b) {
			t.Errorf("%d bytes, %.8X..: %.8X.., %d, %d", len(b), b, got, e1, e2)
		}
	}
}

func TestP402StuffedBitsContainNoSixOnes(t *testing.T) {
	six := bytes.Repeat([]byte{1}, 6)
	for i, l := range samples() {
		for _, given := range [][]byte{l, disguised(l, int64(i))} {
			stuffed := Stuff(given)
			if at := bytes.Index(stuffed, six); at >= 0 {
				t.Errorf("%d bits, %.40s..: six 1s at %d", len(l), text(l), at)
			}
			if strings.Contains(text(stuffed), "?") {
				t.Errorf("%d bits, %.40s..: an element that is neither 0 nor 1", len(l), text(l))
			}
		}
	}
}

// spare returns b with 16 bytes of spare capacity, and all the memory of it.
func spare(b []byte) (given, memory []byte) {
	memory = append(slices.Clone(b), bytes.Repeat([]byte{0xA7}, 16)...)
	return memory[:len(b):len(memory)], memory
}

var calls = []struct {
	name string
	call func(b []byte) []byte
}{
	{"Of", Of},
	{"Bytes", func(l []byte) []byte { b, _ := Bytes(l); return b }},
	{"Stuff", Stuff},
	{"Unstuff", func(l []byte) []byte { plain, _ := Unstuff(l); return plain }},
}

// arguments holds bits and other elements, with and without runs of 1s, and what Bytes and Unstuff reject, early and late.
func arguments() [][]byte {
	all := append(rows(8), nil)
	for i, l := range rows(7) {
		all = append(all, disguised(l, int64(i)))
	}
	for _, n := range []int{8, 64, 4096} {
		zeros := make([]byte, n)
		all = append(all, zeros, bytes.Repeat([]byte{1}, n), bytes.Repeat([]byte{0x5A}, n))
		all = append(all, append(slices.Clone(zeros), row("11111")...), append(slices.Clone(zeros), row("11111111")...))
		all = append(all, row(strings.Repeat("11110000", n)), row(strings.Repeat("111110", 4*n)))
	}
	return all
}

func fill(b []byte, c byte) {
	for i := range b {
		b[i] = c
	}
}

func TestP102ArgumentsAreNotModified(t *testing.T) {
	for _, b := range arguments() {
		for _, c := range calls {
			given, memory := spare(b)
			before := slices.Clone(memory)
			c.call(given)
			if !bytes.Equal(memory, before) {
				t.Errorf("%s of %.20X modified its argument or the spare capacity behind it", c.name, b)
			}
		}
	}
}

func TestP102ResultsShareNoMemoryWithArguments(t *testing.T) {
	for _, b := range arguments() {
		for _, c := range calls {
			given, memory := spare(b)
			got := c.call(given)
			before := slices.Clone(got)
			was := slices.Clone(memory)
			fill(got[:cap(got)], 0x11)
			if !bytes.Equal(memory, was) {
				t.Errorf("%s of %.20X: writing to the result changed the argument", c.name, b)
			}
			copy(got, before)
			fill(memory, 0x22)
			if !bytes.Equal(got, before) {
				t.Errorf("%s of %.20X: writing to the argument changed the result", c.name, b)
			}
		}
	}
}

func TestP102ResultsShareNoMemoryWithEachOther(t *testing.T) {
	for _, b := range arguments() {
		for _, c := range calls {
			first, second := c.call(b), c.call(b)
			before := slices.Clone(second)
			fill(first[:cap(first)], 0x33)
			if !bytes.Equal(second, before) || !bytes.Equal(c.call(b), before) {
				t.Errorf("%s of %.20X: writing to a result changed another", c.name, b)
			}
		}
	}
}

func TestP102SpareCapacityDoesNotMatter(t *testing.T) {
	for _, b := range arguments() {
		given, _ := spare(b)
		if ask(given) != ask(slices.Clip(b)) {
			t.Errorf("the results for %.20X depend on the capacity", b)
		}
	}
}

func TestP102NilAndEmptyAreEquivalent(t *testing.T) {
	none := answers{}
	if ask(nil) != none || ask([]byte{}) != none {
		t.Errorf("nil: %v, no bits: %v", ask(nil), ask([]byte{}))
	}
}

type answers struct {
	bits, bytes, stuffed, plain string
	bytesErrno, plainErrno      api.Errno
}

func ask(b []byte) answers {
	whole, e1 := Bytes(b)
	plain, e2 := Unstuff(b)
	return answers{string(Of(b)), string(whole), string(Stuff(b)), string(plain), e1, e2}
}

func TestP102ResultsDoNotDependOnOtherCalls(t *testing.T) {
	all := arguments()
	first := make([]answers, len(all))
	for i, b := range all {
		first[i] = ask(b)
	}
	var joined sync.WaitGroup
	for worker := range 4 {
		joined.Go(func() {
			for step := range 2 * len(all) {
				i := step % len(all)
				if worker%2 == 1 {
					i = len(all) - 1 - i
				}
				if got := ask(all[i]); got != first[i] {
					t.Errorf("%.20X: the results differ from those at first", all[i])
				}
			}
		})
	}
	joined.Wait()
}
