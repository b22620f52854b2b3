package octets

import (
	"bytes"
	"math/rand"
	"slices"
	"sync"
	"testing"

	"signalman/api"
)

const (
	flag   = 0x7E
	escape = 0x7D
)

// alphabet holds what is escaped, what stands for it behind an Escape, their neighbours, and the octets that differ in one bit from them.
var alphabet = []byte{flag, escape, 0x5E, 0x5D, 0x7F, 0x7C, 0x20, 0x00, 0xFE}

// words returns all sequences over the alphabet with at most n octets.
func words(n int) [][]byte {
	all := [][]byte{{}}
	for from, length := 0, 0; length < n; length++ {
		to := len(all)
		for _, w := range all[from:to] {
			for _, c := range alphabet {
				all = append(all, append(slices.Clone(w), c))
			}
		}
		from = to
	}
	return all
}

// samples holds no octets, all short words, all pairs of octets, long runs of one octet and random octets.
func samples() [][]byte {
	all := append(words(4), nil)
	for first := range 256 {
		all = append(all, []byte{byte(first)})
		for second := range 256 {
			all = append(all, []byte{byte(first), byte(second)})
		}
	}
	for _, n := range []int{5, 64, 1000, 65536} {
		for _, c := range alphabet {
			all = append(all, bytes.Repeat([]byte{c}, n))
		}
	}
	random := rand.New(rand.NewSource(3))
	for n := range 200 {
		b := make([]byte, 1+n*n/4)
		random.Read(b)
		few := make([]byte, n)
		for i := range few {
			few[i] = alphabet[random.Intn(len(alphabet))]
		}
		all = append(all, b, few)
	}
	return all
}

// wantStuff replaces the Escapes first, so that the Escapes that replace Flags stay as they are.
func wantStuff(b []byte) []byte {
	b = bytes.ReplaceAll(b, []byte{escape}, []byte{escape, 0x5D})
	return bytes.ReplaceAll(b, []byte{flag}, []byte{escape, 0x5E})
}

// wantUnstuff takes an octet or an Escape with its octet from the left, again and again.
func wantUnstuff(b []byte) ([]byte, api.Errno) {
	var want []byte
	for len(b) > 0 {
		switch {
		case b[0] == flag:
			return nil, api.ErrSyntax
		case b[0] != escape:
			want, b = append(want, b[0]), b[1:]
		case len(b) == 1:
			return nil, api.ErrAbort
		case b[1] == flag:
			return nil, api.ErrSyntax
		default:
			want, b = append(want, b[1]^0x20), b[2:]
		}
	}
	return want, api.OK
}

func TestP301StuffOfKnownOctets(t *testing.T) {
	for _, c := range []struct{ text, want string }{
		{"", ""},
		{"a link", "a link"},
		{"\x7E", "\x7D\x5E"},
		{"\x7D", "\x7D\x5D"},
		{"\x5E\x5D", "\x5E\x5D"},
		{"\x7C\x7F\x20\x00\xFF\xFE\xFD", "\x7C\x7F\x20\x00\xFF\xFE\xFD"},
		{"\x7E\x7E\x7E", "\x7D\x5E\x7D\x5E\x7D\x5E"},
		{"\x7D\x7D\x7D", "\x7D\x5D\x7D\x5D\x7D\x5D"},
		{"\x7D\x7E", "\x7D\x5D\x7D\x5E"},
		{"\x7E\x7D", "\x7D\x5E\x7D\x5D"},
		{"\x7D\x5E", "\x7D\x5D\x5E"},
		{"\x7D\x5D", "\x7D\x5D\x5D"},
		{"\x7Eab\x7Dc\x7E", "\x7D\x5Eab\x7D\x5Dc\x7D\x5E"},
	} {
		if got := Stuff([]byte(c.text)); string(got) != c.want {
			t.Errorf("Stuff(%q) = %q, want %q", c.text, got, c.want)
		}
	}
}

func TestP301StuffOfEveryOctet(t *testing.T) {
	for c := range 256 {
		want := []byte{byte(c)}
		if c == flag || c == escape {
			want = []byte{escape, byte(c) ^ 32}
		}
		if got := Stuff([]byte{byte(c)}); !bytes.Equal(got, want) {
			t.Errorf("Stuff of %02X = %X, want %X", c, got, want)
		}
	}
}

func TestP301StuffOfAllSamples(t *testing.T) {
	for _, b := range samples() {
		if got, want := Stuff(b), wantStuff(b); !bytes.Equal(got, want) {
			t.Errorf("Stuff of %d octets, %.20X..: %d octets, %.40X.., want %d, %.40X..", len(b), b, len(got), got, len(want), want)
		}
	}
}

func TestP301UnstuffOfKnownOctets(t *testing.T) {
	for _, c := range []struct{ text, want string }{
		{"", ""},
		{"a link", "a link"},
		{"\x7D\x5E", "\x7E"},
		{"\x7D\x5D", "\x7D"},
		{"\x5E\x5D", "\x5E\x5D"},
		{"\x7D\x5E\x7D\x5E", "\x7E\x7E"},
		{"\x7D\x7D", "\x5D"},
		{"\x7D\x7D\x7D\x7D", "\x5D\x5D"},
		{"\x7D\x7D\x5E", "\x5D\x5E"},
		{"\x7D\x7D\x7D\x5E", "\x5D\x7E"},
		{"\x7D\x00", "\x20"},
		{"\x7D\x20\x7D\xFF", "\x00\xDF"},
		{"a\x7DbC\x7D\x5D", "aBC\x7D"},
	} {
		if got, e := Unstuff([]byte(c.text)); e != api.OK || string(got) != c.want {
			t.Errorf("Unstuff(%q) = %q, %d, want %q", c.text, got, e, c.want)
		}
	}
}

func TestP301UnstuffOfEveryOctet(t *testing.T) {
	for c := range 256 {
		b := byte(c)
		if b == flag || b == escape {
			continue
		}
		if got, e := Unstuff([]byte{b}); e != api.OK || !bytes.Equal(got, []byte{b}) {
			t.Errorf("Unstuff of %02X = %X, %d", c, got, e)
		}
	}
}

func TestP301UnstuffOfEveryEscapedOctet(t *testing.T) {
	for c := range 256 {
		b := byte(c)
		got, e := Unstuff([]byte{'a', escape, b, 'z'})
		if b == flag {
			if e != api.ErrSyntax || len(got) != 0 {
				t.Errorf("an escaped Flag: %X, %d", got, e)
			}
		} else if e != api.OK || !bytes.Equal(got, []byte{'a', b ^ 32, 'z'}) {
			t.Errorf("%02X escaped: %X, %d", c, got, e)
		}
	}
}

func TestP301UnstuffReturnsTheFirstError(t *testing.T) {
	for _, c := range []struct {
		text string
		want api.Errno
	}{
		{"\x7E", api.ErrSyntax},
		{"ab\x7E", api.ErrSyntax},
		{"\x7Eab", api.ErrSyntax},
		{"\x7E\x7E", api.ErrSyntax},
		{"\x7D\x5E\x7E", api.ErrSyntax},
		{"\x7D\x7E", api.ErrSyntax},
		{"ab\x7D\x7Ecd", api.ErrSyntax},
		{"\x7D\x7D\x7E", api.ErrSyntax},
		{"\x7D\x7D\x7D\x7E", api.ErrSyntax},
		{"\x7D", api.ErrAbort},
		{"ab\x7D", api.ErrAbort},
		{"\x7D\x7D\x7D", api.ErrAbort},
		{"\x7D\x5E\x7D", api.ErrAbort},
		{"\x7D\x5D\x7D", api.ErrAbort},
		{"\x7E\x7D", api.ErrSyntax},
		{"\x7D\x7E\x7D", api.ErrSyntax},
		{"\x7D\x7E\x7D\x7E", api.ErrSyntax},
		{"a\x7Eb\x7D", api.ErrSyntax},
	} {
		if got, e := Unstuff([]byte(c.text)); e != c.want || len(got) != 0 {
			t.Errorf("Unstuff(%q) = %q, %d, want %d", c.text, got, e, c.want)
		}
	}
}

// What is behind the octets that are given, in their spare capacity, is not read.
func TestP301UnstuffEndsAtTheEnd(t *testing.T) {
	for _, behind := range []byte{0x5E, flag, escape, 'a'} {
		whole := []byte{'a', escape, behind}
		if got, e := Unstuff(whole[:2]); e != api.ErrAbort || len(got) != 0 {
			t.Errorf("an Escape at the end, %02X behind it: %X, %d", behind, got, e)
		}
		if got, e := Unstuff(whole[:1]); e != api.OK || string(got) != "a" {
			t.Errorf("an octet, an Escape behind it: %X, %d", got, e)
		}
	}
}

func TestP301UnstuffOfAllSamples(t *testing.T) {
	for _, b := range append(samples(), words(5)...) {
		want, wantErrno := wantUnstuff(b)
		if got, e := Unstuff(b); e != wantErrno || !bytes.Equal(got, want) {
			t.Errorf("Unstuff of %d octets, %.20X..: %d octets, %.20X.., %d, want %d, %.20X.., %d", len(b), b, len(got), got, e, len(want), want, wantErrno)
		}
	}
}

func TestP302UnstuffOfStuff(t *testing.T) {
	for _, b := range samples() {
		if got, e := Unstuff(Stuff(b)); e != api.OK || !bytes.Equal(got, b) {
			t.Errorf("%d octets, %.20X..: %d octets, %.20X.., %d", len(b), b, len(got), got, e)
		}
	}
}

func TestP302UnstuffOfStuffOfStuff(t *testing.T) {
	for _, b := range words(4) {
		once, e1 := Unstuff(Stuff(Stuff(b)))
		twice, e2 := Unstuff(once)
		if e1 != api.OK || e2 != api.OK || !bytes.Equal(twice, b) {
			t.Errorf("%X: %X, %d, %d", b, twice, e1, e2)
		}
	}
}

func TestP302StuffedOctetsContainNoFlag(t *testing.T) {
	for _, b := range samples() {
		if at := bytes.IndexByte(Stuff(b), flag); at >= 0 {
			t.Errorf("%d octets, %.20X..: a Flag at %d", len(b), b, at)
		}
	}
}

// spare returns b with 16 octets of spare capacity, and all the memory of it.
func spare(b []byte) (given, memory []byte) {
	memory = append(slices.Clone(b), bytes.Repeat([]byte{0xA7}, 16)...)
	return memory[:len(b):len(memory)], memory
}

var calls = []struct {
	name string
	call func(b []byte) []byte
}{
	{"Stuff", Stuff},
	{"Unstuff", func(b []byte) []byte { plain, _ := Unstuff(b); return plain }},
}

// arguments holds octets that stay as they are, octets that do not, and octets that Unstuff rejects, early and late.
func arguments() [][]byte {
	all := append(words(3), nil)
	for _, n := range []int{8, 64, 4096} {
		plain := bytes.Repeat([]byte{'x'}, n)
		all = append(all, plain, bytes.Repeat([]byte{escape, 0x5E}, n), bytes.Repeat([]byte{flag}, n))
		all = append(all, append(slices.Clone(plain), flag), append(slices.Clone(plain), escape))
	}
	return all
}

func fill(b []byte, c byte) {
	for i := range b {
		b[i] = c
	}
}

func TestP102ArgumentsAreNotModified(t *testing.T) {
	for _, b := range arguments() {
		for _, c := range calls {
			given, memory := spare(b)
			before := slices.Clone(memory)
			c.call(given)
			if !bytes.Equal(memory, before) {
				t.Errorf("%s of %.20X modified its argument or the spare capacity behind it", c.name, b)
			}
		}
	}
}

func TestP102ResultsShareNoMemoryWithArguments(t *testing.T) {
	for _, b := range arguments() {
		for _, c := range calls {
			given, memory := spare(b)
			got := c.call(given)
			before := slices.Clone(got)
			was := slices.Clone(memory)
			fill(got[:cap(got)], 0x11)
			if !bytes.Equal(memory, was) {
				t.Errorf("%s of %.20X: writing to the result changed the argument", c.name, b)
			}
			copy(got, before)
			fill(memory, 0x22)
			if !bytes.Equal(got, before) {
				t.Errorf("%s of %.20X: writing to the argument changed the result", c.name, b)
			}
		}
	}
}

func TestP102ResultsShareNoMemoryWithEachOther(t *testing.T) {
	for _, b := range arguments() {
		for _, c := range calls {
			first, second := c.call(b), c.call(b)
			before := slices.Clone(second)
			fill(first[:cap(first)], 0x33)
			if !bytes.Equal(second, before) || !bytes.Equal(c.call(b), before) {
				t.Errorf("%s of %.20X: writing to a result changed another", c.name, b)
			}
		}
	}
}

func TestP102SpareCapacityDoesNotMatter(t *testing.T) {
	for _, b := range arguments() {
		given, _ := spare(b)
		if ask(given) != ask(slices.Clip(b)) {
			t.Errorf("the results for %.20X depend on the capacity", b)
		}
	}
}

func TestP102NilAndEmptyAreEquivalent(t *testing.T) {
	none := answers{"", "", api.OK}
	if ask(nil) != none || ask([]byte{}) != none {
		t.Errorf("nil: %v, no octets: %v", ask(nil), ask([]byte{}))
	}
}

type answers struct {
	stuffed, plain string
	errno          api.Errno
}

func ask(b []byte) answers {
	plain, e := Unstuff(b)
	return answers{string(Stuff(b)), string(plain), e}
}

func TestP102ResultsDoNotDependOnOtherCalls(t *testing.T) {
	all := arguments()
	first := make([]answers, len(all))
	for i, b := range all {
		first[i] = ask(b)
	}
	var joined sync.WaitGroup
	for worker := range 4 {
		joined.Go(func() {
			for step := range 2 * len(all) {
				i := step % len(all)
				if worker%2 == 1 {
					i = len(all) - 1 - i
				}
				if got := ask(all[i]); got != first[i] {
					t.Errorf("%.20X: %.20v, but %.20v at first", all[i], got, first[i])
				}
			}
		})
	}
	joined.Wait()
}
