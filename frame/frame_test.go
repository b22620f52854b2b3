package frame

import (
	"bytes"
	"fmt"
	"hash/crc32"
	"math"
	"math/rand"
	"slices"
	"strings"
	"sync"
	"testing"

	"signalman/api"
)

const (
	flag   = 0x7E
	escape = 0x7D
)

var widths = []bool{false, true}

// told is the result of a Push.
type told struct {
	result int
	body   string
}

func (x told) String() string {
	return fmt.Sprintf("%d (%d octets, %.20X)", x.result, len(x.body), x.body)
}

func push(r *Reader, c byte) told {
	result, body := r.Push(c)
	return told{result, string(body)}
}

// feed pushes all octets and returns all results.
func feed(r *Reader, b []byte) []told {
	all := make([]told, len(b))
	for i, c := range b {
		all[i] = push(r, c)
	}
	return all
}

// wantShort divides by x^16 + x^12 + x^5 + 1, highest power first, the lowest bit of each octet first.
func wantShort(b []byte) uint16 {
	var register uint16 = 0xFFFF
	for _, c := range b {
		for i := range 8 {
			top := register >> 15
			register <<= 1
			if top != uint16(c>>i&1) {
				register ^= 1<<12 | 1<<5 | 1
			}
		}
	}
	var reversed uint16
	for i := range 16 {
		reversed |= (register >> i & 1) << (15 - i)
	}
	return ^reversed
}

// summed returns a body and its checksum.
func summed(body []byte, wide bool) []byte {
	if wide {
		s := crc32.ChecksumIEEE(body)
		return append(slices.Clone(body), byte(s), byte(s>>8), byte(s>>16), byte(s>>24))
	}
	s := wantShort(body)
	return append(slices.Clone(body), byte(s), byte(s>>8))
}

func stuffed(b []byte) []byte {
	b = bytes.ReplaceAll(b, []byte{escape}, []byte{escape, 0x5D})
	return bytes.ReplaceAll(b, []byte{flag}, []byte{escape, 0x5E})
}

// inner returns what is between the Flags of a body's frame.
func inner(body []byte, wide bool) []byte {
	return stuffed(summed(body, wide))
}

// between returns a Flag, b and a Flag.
func between(b ...byte) []byte {
	return slices.Concat([]byte{flag}, b, []byte{flag})
}

// plainOf unstuffs what is between two Flags; open tells that it ends with an Escape that has no octet.
func plainOf(b []byte) (plain []byte, open bool) {
	for len(b) > 0 {
		if b[0] != escape {
			plain, b = append(plain, b[0]), b[1:]
			continue
		}
		if len(b) == 1 {
			return plain, true
		}
		plain, b = append(plain, b[1]^0x20), b[2:]
	}
	return plain, false
}

// judged is what a Flag ends, of all that is between it and the Flag before it.
func judged(b []byte, most int, wide bool) told {
	sum := 2
	if wide {
		sum = 4
	}
	plain, open := plainOf(b)
	switch {
	case len(b) == 0:
		return told{api.RNone, ""}
	case len(plain) > most+sum:
		return told{api.RGiant, ""}
	case open:
		return told{api.RAbort, ""}
	case len(plain) < sum+1:
		return told{api.RRunt, ""}
	}
	body := plain[:len(plain)-sum]
	if !bytes.Equal(summed(body, wide), plain) {
		return told{api.RSum, ""}
	}
	return told{api.RGood, string(body)}
}

// want is what a new Reader tells of b: it looks at the whole of b and takes it apart at the Flags.
func want(b []byte, most int, wide bool) []told {
	all := make([]told, len(b))
	last := -1
	for i, c := range b {
		if c != flag {
			continue
		}
		if last >= 0 {
			all[i] = judged(b[last+1:i], most, wide)
		}
		last = i
	}
	return all
}

// brief writes the results of the Flags in b, and whatever else is not RNone.
func brief(b []byte, all []told) string {
	var s strings.Builder
	for i, x := range all {
		if b[i] == flag || x != (told{}) {
			fmt.Fprintf(&s, " %d: %v", i, x)
		}
	}
	return s.String()
}

func check(t *testing.T, b []byte, most int, wide bool) {
	t.Helper()
	got, expected := feed(New(most, wide), b), want(b, min(max(most, 1), 65536), wide)
	if !slices.Equal(got, expected) {
		t.Errorf("most %d, wide %v, %d octets, %.60X:%s, want%s", most, wide, len(b), b, brief(b, got), brief(b, expected))
	}
}

// bodies holds no octets, every octet, octets to be escaped, and longer bodies.
func bodies() [][]byte {
	all := [][]byte{nil, {}, {flag, flag}, {escape, escape}, {escape, flag}, {0x5E, 0x5D}, []byte("123456789")}
	for c := range 256 {
		all = append(all, []byte{byte(c)}, []byte{byte(c), 0x20})
	}
	random := rand.New(rand.NewSource(5))
	for n := 2; n <= 70; n++ {
		b := make([]byte, n)
		random.Read(b)
		all = append(all, b, bytes.Repeat([]byte{flag}, n), make([]byte, n))
	}
	for _, n := range []int{1000, 65535, 65536, 65537} {
		b := make([]byte, n)
		random.Read(b)
		all = append(all, b)
	}
	return all
}

func TestP501PutOfKnownBodies(t *testing.T) {
	for _, c := range []struct {
		body, want string
		wide       bool
	}{
		{"", "\x7E\x00\x00\x7E", false},
		{"", "\x7E\x00\x00\x00\x00\x7E", true},
		{"123456789", "\x7E123456789\x6E\x90\x7E", false},
		{"123456789", "\x7E123456789\x26\x39\xF4\xCB\x7E", true},
	} {
		if got := Put([]byte(c.body), c.wide); string(got) != c.want {
			t.Errorf("Put(%q, %v) = %X, want %X", c.body, c.wide, got, c.want)
		}
	}
}

func TestP501PutOfAllBodies(t *testing.T) {
	for _, wide := range widths {
		for _, body := range bodies() {
			if got, expected := Put(body, wide), between(inner(body, wide)...); !bytes.Equal(got, expected) {
				t.Errorf("Put of %d octets, %.20X, %v: %.60X, want %.60X", len(body), body, wide, got, expected)
			}
		}
	}
}

// The checksum is stuffed too, not only the body.
func TestP501PutEscapesTheChecksum(t *testing.T) {
	for _, wide := range widths {
		found := 0
		for n := range 1 << 12 {
			body := []byte{byte(n), byte(n >> 8)}
			sum := summed(body, wide)[2:]
			if !bytes.ContainsAny(sum, "\x7D\x7E") {
				continue
			}
			found++
			got := Put(body, wide)
			if bytes.IndexByte(got[1:len(got)-1], flag) >= 0 || !bytes.Equal(got, between(stuffed(append(body, sum...))...)) {
				t.Errorf("Put(%X, %v) = %X", body, wide, got)
			}
		}
		if found == 0 {
			t.Errorf("wide %v: no such checksum", wide)
		}
	}
}

func TestP502ReadsEveryBody(t *testing.T) {
	for _, wide := range widths {
		for _, body := range bodies() {
			b := Put(body, wide)
			check(t, b, 65536, wide)
			check(t, b, len(body), wide)
			check(t, b, len(body)-1, wide)
		}
	}
}

func TestP502AnEmptyBodyIsARunt(t *testing.T) {
	for _, wide := range widths {
		got := feed(New(5, wide), Put(nil, wide))
		if last := got[len(got)-1]; last != (told{api.RRunt, ""}) {
			t.Errorf("wide %v: %v", wide, last)
		}
	}
}

func TestP502KnownOctets(t *testing.T) {
	none, runt, giant, sum, abort := told{api.RNone, ""}, told{api.RRunt, ""}, told{api.RGiant, ""}, told{api.RSum, ""}, told{api.RAbort, ""}
	good := told{api.RGood, "a"}
	a := string(inner([]byte("a"), false))
	for _, c := range []struct {
		text string
		want []told
	}{
		{"", nil},
		{"ab\x7Dcd", nil},
		{"\x7E", []told{none}},
		{"ab\x7E", []told{none}},
		{"ab\x7D\x7E", []told{none}},
		{"abcdefghijk\x7E", []told{none}},
		{a + "\x7E", []told{none}},
		{"\x7E\x7E\x7E", []told{none, none, none}},
		{"\x7Ea\x7E", []told{none, runt}},
		{"\x7Eab\x7E", []told{none, runt}},
		{"\x7E\x7D\x41\x7D\x42\x7E", []told{none, runt}},
		{"\x7Eabc\x7E", []told{none, sum}},
		{"\x7Eabcd\x7E", []told{none, sum}},
		{"\x7Eabcde\x7E", []told{none, giant}},
		{"\x7E\x7D\x41\x7D\x42\x7D\x43\x7D\x44\x7E", []told{none, sum}},
		{"\x7E\x7D\x41\x7D\x42\x7D\x43\x7D\x44\x7D\x45\x7E", []told{none, giant}},
		{"\x7E\x7D\x7E", []told{none, abort}},
		{"\x7Ea\x7D\x7E", []told{none, abort}},
		{"\x7Eabc\x7D\x7E", []told{none, abort}},
		{"\x7Eabcd\x7D\x7E", []told{none, abort}},
		{"\x7Eabcde\x7D\x7E", []told{none, giant}},
		{"\x7E" + a + "\x7D\x7E", []told{none, abort}},
		{"\x7E\x7D\x7D\x7E", []told{none, runt}},
		{"\x7E\x7D\x7D\x7D\x7E", []told{none, abort}},
		{"\x7E\x7D\x7D\x7D\x7D\x7D\x7D\x7E", []told{none, sum}},
		{"\x7E" + a + "\x7E", []told{none, good}},
		{"\x7E\x7D\x41" + a[1:] + "\x7E", []told{none, good}},
		// What comes after each result is read as if nothing had been before.
		{"\x7E\x7D\x7E\x7E", []told{none, abort, none}},
		{"\x7E\x7D\x7E\x5E\x7E", []told{none, abort, runt}},
		{"\x7Ea\x7E\x7E", []told{none, runt, none}},
		{"\x7Eabc\x7E\x7E", []told{none, sum, none}},
		{"\x7Eabcde\x7E\x7E", []told{none, giant, none}},
		{"\x7E" + a + "\x7E\x7E", []told{none, good, none}},
		{"\x7E\x7D\x7E" + a + "\x7E", []told{none, abort, good}},
		{"\x7Ea\x7E" + a + "\x7E", []told{none, runt, good}},
		{"\x7Eabc\x7E" + a + "\x7E", []told{none, sum, good}},
		{"\x7Eabcdefgh\x7E" + a + "\x7E", []told{none, giant, good}},
		{"\x7Eabcdefgh\x7D\x7E" + a + "\x7E", []told{none, giant, good}},
		{"\x7E" + a + "\x7E" + a + "\x7E", []told{none, good, good}},
		{"x\x7E" + a + "\x7E\x7E\x7E" + a + "\x7E", []told{none, good, none, none, good}},
		{"\x7E" + a[:2] + "\x7E" + a[2:] + "\x7E", []told{none, runt, runt}},
		{"\x7Eabc\x7Edef\x7E", []told{none, sum, sum}},
	} {
		var flags []told
		for i, x := range feed(New(2, false), []byte(c.text)) {
			if c.text[i] == flag {
				flags = append(flags, x)
			} else if x != none {
				t.Errorf("%X: octet %d: %v", c.text, i, x)
			}
		}
		if !slices.Equal(flags, c.want) {
			t.Errorf("%X: %v, want %v", c.text, flags, c.want)
		}
	}
}

// A frame of exactly most octets is read, and one of one octet more is not, whether the octets are escaped or not.
func TestP502TheGreatestLengthOfABody(t *testing.T) {
	for _, c := range []struct{ most, greatest int }{
		{math.MinInt, 1}, {-65536, 1}, {-1, 1}, {0, 1}, {1, 1}, {2, 2}, {3, 3}, {100, 100}, {65535, 65535}, {65536, 65536}, {65537, 65536}, {1 << 32, 65536}, {math.MaxInt, 65536},
	} {
		for _, wide := range widths {
			for _, octet := range []byte{'x', flag, escape} {
				for _, n := range []int{c.greatest - 1, c.greatest, c.greatest + 1, c.greatest + 2, c.greatest + 9} {
					body := bytes.Repeat([]byte{octet}, n)
					expected := told{api.RGood, string(body)}
					if n == 0 {
						expected = told{api.RRunt, ""}
					} else if n > c.greatest {
						expected = told{api.RGiant, ""}
					}
					all := feed(New(c.most, wide), Put(body, wide))
					if last := all[len(all)-1]; last != expected {
						t.Errorf("most %d, wide %v, %d times %02X: result %d with %d octets", c.most, wide, n, octet, last.result, len(last.body))
					}
				}
			}
		}
	}
}

// Frames of every length around both limits, with right and wrong checksums, with and without an Escape at the end.
func TestP502LengthsAndOrderOfResults(t *testing.T) {
	for _, wide := range widths {
		for most := range 6 {
			for n := range 16 {
				raw := bytes.Repeat([]byte{0x40}, n)
				right := summed(raw, wide)
				wrong := slices.Clone(right)
				wrong[len(wrong)-1] ^= 0x80
				for _, octets := range [][]byte{raw, stuffed(right), stuffed(wrong)} {
					next := Put([]byte{'n'}, wide)
					check(t, between(octets...), most, wide)
					check(t, between(append(slices.Clone(octets), escape)...), most, wide)
					check(t, slices.Concat(between(octets...), next[1:]), most, wide)
					check(t, slices.Concat(between(octets...), next), most, wide)
					check(t, slices.Concat(between(append(slices.Clone(octets), escape)...), next[1:]), most, wide)
				}
			}
		}
	}
}

// The state in which a frame becomes too long: its last octet comes plain, escaped, or not at all.
func TestP502TooLongByAnEscapedOctet(t *testing.T) {
	for _, wide := range widths {
		limit := 5 + 2
		if wide {
			limit = 5 + 4
		}
		full := bytes.Repeat([]byte{'f'}, limit)
		for _, c := range []struct {
			more string
			want int
		}{
			{"", api.RSum}, {"\x7D", api.RAbort}, {"g", api.RGiant}, {"\x7D\x47", api.RGiant}, {"\x7D\x7D", api.RGiant}, {"g\x7D", api.RGiant}, {"\x7D\x47\x7D", api.RGiant}, {"gg\x7D\x7D\x7D", api.RGiant},
		} {
			all := feed(New(5, wide), between(append(slices.Clone(full), c.more...)...))
			if last := all[len(all)-1]; last != (told{c.want, ""}) {
				t.Errorf("wide %v, %q after a full frame: %v, want %d", wide, c.more, last, c.want)
			}
		}
	}
}

// All sequences of Flags, Escapes, other octets, and what is between the Flags of right and of wrong frames.
func TestP502AllSequencesOfPieces(t *testing.T) {
	for _, wide := range widths {
		wrong := inner([]byte("wx"), wide)
		wrong[0] ^= 1
		pieces := [][]byte{{flag}, {escape}, {0x5E}, {'a', 'b'}, inner([]byte("g"), wide), inner([]byte{flag, escape}, wide), wrong}
		level := [][]byte{nil}
		for range 6 {
			var next [][]byte
			for _, b := range level {
				for _, piece := range pieces {
					longer := slices.Concat(b, piece)
					check(t, longer, 2, wide)
					check(t, append([]byte{flag}, longer...), 3, wide)
					next = append(next, longer)
				}
			}
			level = next
			if t.Failed() {
				return
			}
		}
	}
}

func TestP502AllShortSequencesOfOctets(t *testing.T) {
	alphabet := []byte{flag, escape, 0x5E, 0x00}
	for _, wide := range widths {
		for n := range 1 << 20 {
			b := make([]byte, 10)
			for i := range b {
				b[i] = alphabet[n>>(2*i)&3]
			}
			check(t, append([]byte{flag}, b...), 1, wide)
			if t.Failed() {
				return
			}
		}
	}
}

func TestP502EveryOctetAfterAFlagAndAfterAnEscape(t *testing.T) {
	for _, wide := range widths {
		for c := range 256 {
			check(t, []byte{byte(c), flag}, 4, wide)
			check(t, []byte{escape, byte(c), flag}, 4, wide)
			check(t, []byte{flag, byte(c), flag}, 4, wide)
			check(t, []byte{flag, escape, byte(c), flag}, 4, wide)
			frame := summed([]byte{byte(c)}, wide)
			// Each octet of a right frame may be escaped, also one that need not be; but no Flag is hidden by it.
			for at, octet := range frame {
				before, after := stuffed(frame[:at]), stuffed(frame[at+1:])
				check(t, between(slices.Concat(before, []byte{escape, octet ^ 32}, after)...), 4, wide)
			}
		}
	}
}

func TestP502ErrorsInSingleBitsAreDetected(t *testing.T) {
	for _, wide := range widths {
		for _, body := range [][]byte{[]byte("signalman"), {flag, escape, 0x5E}, {0}} {
			b := Put(body, wide)
			for bit := range 8 * (len(b) - 2) {
				changed := slices.Clone(b)
				changed[1+bit/8] ^= 1 << (bit % 8)
				check(t, changed, 20, wide)
				for _, x := range feed(New(20, wide), changed) {
					if x.result == api.RGood && x.body == string(body) {
						t.Errorf("wide %v, body %X, bit %d: not detected", wide, body, bit)
					}
				}
			}
		}
	}
}

// A Reader of one width takes the frames of the other as any octets.
func TestP502TheOtherWidth(t *testing.T) {
	for _, wide := range widths {
		for _, body := range bodies()[:200] {
			b := Put(body, !wide)
			check(t, b, 10, wide)
			for _, x := range feed(New(10, wide), b) {
				if x.result == api.RGood && x.body == string(body) {
					t.Errorf("wide %v: the other checksum of %X was taken", wide, body)
				}
			}
		}
	}
}

func TestP502RandomOctets(t *testing.T) {
	random := rand.New(rand.NewSource(502))
	for _, wide := range widths {
		for range 300 {
			var b []byte
			for range 60 {
				body := make([]byte, random.Intn(8))
				random.Read(body)
				switch random.Intn(6) {
				case 0:
					b = append(b, body...)
				case 1:
					b = append(b, flag)
				case 2:
					b = append(b, escape)
				case 3:
					b = append(b, inner(body, wide)...)
				default:
					b = append(b, Put(body, wide)...)
				}
			}
			check(t, b, random.Intn(8), wide)
		}
	}
}

// A frame that does not end is forgotten but for its being too long, and the frame after it is read.
func TestP502ALongStreamWithoutFlags(t *testing.T) {
	for _, wide := range widths {
		r := New(math.MaxInt, wide)
		push(r, flag)
		for i := range 1 << 20 {
			if x := push(r, byte(i)|0x80); x != (told{}) {
				t.Fatalf("wide %v, octet %d: %v", wide, i, x)
			}
		}
		if x := push(r, flag); x != (told{api.RGiant, ""}) {
			t.Errorf("wide %v: %d", wide, x.result)
		}
		all := feed(r, Put([]byte("next"), wide))
		if last := all[len(all)-1]; last != (told{api.RGood, "next"}) {
			t.Errorf("wide %v: %v", wide, last)
		}
	}
}

func TestP503ConsecutiveFramesWithFlagsBetween(t *testing.T) {
	list := [][]byte{{'a'}, {flag}, {escape, flag}, []byte("123456789"), {0, 0, 0}, {0x5E}, bytes.Repeat([]byte{flag}, 9)}
	for _, wide := range widths {
		// With 0 Flags more than one, the end of a frame is the beginning of the next.
		for more := range 20 {
			r := New(9, wide)
			var got [][]byte
			push(r, flag)
			for _, body := range list {
				for range more {
					if x := push(r, flag); x != (told{}) {
						t.Errorf("wide %v, %d more Flags: %v", wide, more, x)
					}
				}
				for _, c := range Put(body, wide)[1:] {
					if result, b := r.Push(c); result == api.RGood {
						got = append(got, b)
					} else if result != api.RNone {
						t.Errorf("wide %v, %d more Flags: result %d", wide, more, result)
					}
				}
			}
			if !slices.EqualFunc(got, list, bytes.Equal) {
				t.Errorf("wide %v, %d more Flags: %X", wide, more, got)
			}
		}
	}
}

// Two Readers with different streams and parameters, pushed by turns, tell what each would tell alone.
func TestP503TwoReadersAreIndependent(t *testing.T) {
	random := rand.New(rand.NewSource(503))
	stream := func(wide bool) []byte {
		var b []byte
		for range 40 {
			body := make([]byte, random.Intn(6))
			random.Read(body)
			b = slices.Concat(b, Put(body, wide)[random.Intn(2):], []byte{flag, escape, 'x'}[:random.Intn(4)])
		}
		return b
	}
	for range 50 {
		one, two := stream(false), stream(true)
		a, b := New(4, false), New(3, true)
		var gotOne, gotTwo []told
		for len(gotOne) < len(one) || len(gotTwo) < len(two) {
			if len(gotTwo) == len(two) || len(gotOne) < len(one) && random.Intn(2) == 0 {
				gotOne = append(gotOne, push(a, one[len(gotOne)]))
			} else {
				gotTwo = append(gotTwo, push(b, two[len(gotTwo)]))
			}
		}
		if !slices.Equal(gotOne, want(one, 4, false)) || !slices.Equal(gotTwo, want(two, 3, true)) {
			t.Errorf("%X and %X: %s and %s", one, two, brief(one, gotOne), brief(two, gotTwo))
		}
	}
}

// Two Readers of the same parameters in every pair of states.
func TestP503TwoReadersInAllStates(t *testing.T) {
	beginnings := []string{"", "x", "\x7D", "\x7E", "\x7E\x7E", "\x7Ex", "\x7E\x7D", "\x7Exy\x7D", "\x7E123456789", "\x7E123456789\x7D", "\x7Exyz\x7E", string(Put([]byte{'p'}, false))}
	end := Put([]byte{'q'}, false)
	for _, one := range beginnings {
		for _, two := range beginnings {
			a, b := New(3, false), New(3, false)
			feed(a, []byte(one))
			feed(b, []byte(two))
			var gotOne, gotTwo []told
			for _, c := range end[1:] {
				gotOne, gotTwo = append(gotOne, push(a, c)), append(gotTwo, push(b, c))
			}
			wantOne := want(append([]byte(one), end[1:]...), 3, false)[len(one):]
			wantTwo := want(append([]byte(two), end[1:]...), 3, false)[len(two):]
			if !slices.Equal(gotOne, wantOne) || !slices.Equal(gotTwo, wantTwo) {
				t.Errorf("after %X and %X: %v and %v, want %v and %v", one, two, gotOne, gotTwo, wantOne, wantTwo)
			}
		}
	}
}

func TestP503NewReturnsReadersOfTheirOwn(t *testing.T) {
	a, b := New(5, false), New(5, false)
	if a == nil || b == nil || a == b {
		t.Fatalf("New: %p, %p", a, b)
	}
	push(a, flag)
	push(a, 1)
	push(b, 1)
	if x := push(b, flag); x.result != api.RNone {
		t.Errorf("a Reader that was outside: %v", x)
	}
	if x := push(a, flag); x.result != api.RRunt {
		t.Errorf("a Reader that was inside: %v", x)
	}
}

// spare returns b with 16 octets of spare capacity, and all the memory of it.
func spare(b []byte) (given, memory []byte) {
	memory = append(slices.Clone(b), bytes.Repeat([]byte{0xA7}, 16)...)
	return memory[:len(b):len(memory)], memory
}

func fill(b []byte, c byte) {
	for i := range b {
		b[i] = c
	}
}

func TestP102PutNeitherModifiesNorKeepsItsArgument(t *testing.T) {
	for _, wide := range widths {
		for _, body := range bodies() {
			given, memory := spare(body)
			before := slices.Clone(memory)
			got := Put(given, wide)
			if !bytes.Equal(memory, before) {
				t.Errorf("Put of %.20X modified its argument or the spare capacity behind it", body)
			}
			kept := slices.Clone(got)
			fill(memory, 0x22)
			if !bytes.Equal(got, kept) {
				t.Errorf("Put of %.20X: writing to the argument changed the result", body)
			}
			fill(got[:cap(got)], 0x11)
			if !bytes.Equal(memory, bytes.Repeat([]byte{0x22}, len(memory))) {
				t.Errorf("Put of %.20X: writing to the result changed the argument", body)
			}
		}
	}
}

func TestP102ResultsOfPutAreSeparate(t *testing.T) {
	for _, wide := range widths {
		for _, body := range bodies() {
			first, second := Put(body, wide), Put(body, wide)
			before := slices.Clone(second)
			fill(first[:cap(first)], 0x33)
			if !bytes.Equal(second, before) || !bytes.Equal(Put(body, wide), before) {
				t.Errorf("Put of %.20X: writing to a result changed another", body)
			}
		}
	}
}

func TestP102NilAndEmptyAreEquivalent(t *testing.T) {
	for _, wide := range widths {
		if a, b := Put(nil, wide), Put([]byte{}, wide); !bytes.Equal(a, b) {
			t.Errorf("wide %v: %X, %X", wide, a, b)
		}
		given, _ := spare(nil)
		if a, b := Put(given, wide), Put(nil, wide); !bytes.Equal(a, b) {
			t.Errorf("wide %v: %X, %X", wide, a, b)
		}
	}
}

// The caller may write to the body that it got: the Reader does not use that memory any more, and did not give it out twice.
func TestP102BodiesAreSeparate(t *testing.T) {
	for _, wide := range widths {
		r := New(100, wide)
		var got, kept [][]byte
		for n := 1; n <= 100; n++ {
			body := bytes.Repeat([]byte{byte(n)}, n%17+1)
			for _, c := range Put(body, wide) {
				if result, b := r.Push(c); result == api.RGood {
					got, kept = append(got, b), append(kept, slices.Clone(b))
				}
				if len(got) > 0 && n%3 == 0 {
					last := got[len(got)-1]
					fill(last[:cap(last)], 0x44)
					copy(last, kept[len(kept)-1])
				}
			}
			if len(got) != n || !bytes.Equal(kept[n-1], body) {
				t.Fatalf("wide %v: frame %d was not read: %X", wide, n, kept)
			}
		}
		if !slices.EqualFunc(got, kept, bytes.Equal) {
			t.Errorf("wide %v: a later frame changed a body", wide)
		}
	}
}

// A result that is not RGood has no body.
func TestP502OnlyGoodFramesHaveBodies(t *testing.T) {
	for _, wide := range widths {
		r := New(3, wide)
		for _, text := range []string{"x", "\x7E", "\x7E", "xy\x7E", "xyz12\x7E", "\x7D\x7E", "xyz1234567\x7E"} {
			for _, c := range []byte(text) {
				if result, body := r.Push(c); result == api.RGood || len(body) != 0 {
					t.Errorf("wide %v, %q: %d, %X", wide, text, result, body)
				}
			}
		}
	}
}

func TestP102ResultsDoNotDependOnOtherCalls(t *testing.T) {
	all := bodies()[:400]
	var joined sync.WaitGroup
	for worker := range 4 {
		joined.Go(func() {
			r := New(70, worker%2 == 1)
			for step := range all {
				body := all[(step*(worker+1))%len(all)]
				b := Put(body, worker%2 == 1)
				got := feed(r, b)
				expected := judged(b[1:len(b)-1], 70, worker%2 == 1)
				if got[len(got)-1] != expected {
					t.Errorf("worker %d, %.20X: %v, want %v", worker, body, got[len(got)-1], expected)
				}
			}
		})
	}
	joined.Wait()
}
