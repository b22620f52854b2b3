package kcode

import (
	"bytes"
	"fmt"
	"math"
	"slices"
	"sync"
	"testing"

	"signalman/api"
)

var (
	requests = []int{api.QNone, api.QStay, api.QWait, api.QManual, api.QBad, api.QFail, api.QForced, api.QSpare, api.QLock}
	lines    = []int{0, 1}

	// strange holds numbers that are neither a request nor a line, some of which become one if they are cut short, turned positive, or taken modulo a power of two.
	strange = []int{
		9, 10, 11, 15, 16, 17, 19, 24, 31, 127, 128, 129, 255, 256, 256 + 1, 256 + 5, 256 + 8, 65536, 65536 + 1, 65536 + 3,
		math.MaxInt32, math.MaxInt32 + 1, 1 << 32, 1<<32 + 1, 1<<32 + 5, 1<<32 + 8, 1 << 60, 1<<60 + 1, 1 << 62, math.MaxInt - 1, math.MaxInt,
		-1, -2, -3, -4, -5, -6, -7, -8, -9, -15, -16, -17, -128, -255, -256, -256 + 5, math.MinInt32, math.MinInt32 - 1, -1 << 32, -1<<32 + 1, -1<<32 + 8, math.MinInt + 1, math.MinInt + 8, math.MinInt,
	}
	// noLine holds also the numbers just above the greatest line.
	noLine = slices.Concat([]int{2, 3, 4, 5, 6, 7, 8}, strange)

	// numbers holds all requests, the lines among them, and numbers that are none.
	numbers = slices.Concat(requests, strange)
)

// encodings holds, by request and line, the bytes of all encodings.
var encodings = [9][2]string{
	{"\x00\xFF", "\x01\xFE"},
	{"\x10\xEF", "\x11\xEE"},
	{"\x20\xDF", "\x21\xDE"},
	{"\x30\xCF", "\x31\xCE"},
	{"\x40\xBF", "\x41\xBE"},
	{"\x50\xAF", "\x51\xAE"},
	{"\x60\x9F", "\x61\x9E"},
	{"\x70\x8F", "\x71\x8E"},
	{"\x80\x7F", "\x81\x7E"},
}

// result is what Read returns.
type result struct {
	q, line int
	errno   api.Errno
}

func failed(e api.Errno) result {
	return result{errno: e}
}

func read(b []byte) result {
	q, line, e := Read(b)
	return result{q, line, e}
}

// wantPut returns the encoding, and what Read makes of it.
func wantPut(q, line int) ([]byte, result) {
	if !slices.Contains(requests, q) {
		q = api.QNone
	}
	if line != 1 {
		line = 0
	}
	return []byte(encodings[q][line]), result{q, line, api.OK}
}

// wantRead looks b up among all encodings.
func wantRead(b []byte) result {
	for q, row := range encodings {
		for line, encoding := range row {
			if string(b) == encoding {
				return result{q, line, api.OK}
			}
		}
	}
	if len(b) < 2 {
		return failed(api.ErrShort)
	}
	return failed(api.ErrSyntax)
}

func checkPut(t *testing.T, q, line int) {
	t.Helper()
	want, back := wantPut(q, line)
	got := Put(q, line)
	if !bytes.Equal(got, want) {
		t.Errorf("Put(%d, %d) = % X, want % X", q, line, got, want)
	}
	if r := read(got); r != back {
		t.Errorf("Read(Put(%d, %d)) = %v, want %v", q, line, r, back)
	}
}

func checkRead(t *testing.T, b []byte, want result) {
	t.Helper()
	if got := read(b); got != want {
		t.Errorf("Read(% X) = %v, want %v", b, got, want)
	}
}

func TestP1701Example(t *testing.T) {
	if got := Put(0, 0); !bytes.Equal(got, []byte{0, 255}) {
		t.Errorf("Put(0, 0) = %v, want 0, 255", got)
	}
}

func TestP1701PutOfEveryRequestAndLine(t *testing.T) {
	for _, q := range requests {
		for _, line := range lines {
			checkPut(t, q, line)
		}
	}
}

func TestP1701PutByTheFormula(t *testing.T) {
	for _, q := range requests {
		for _, line := range lines {
			got := Put(q, line)
			if len(got) != 2 || int(got[0]) != q*16+line || int(got[1]) != 255-(q*16+line) {
				t.Errorf("Put(%d, %d) = %v", q, line, got)
			}
		}
	}
}

func TestP1701PutOfNoRequest(t *testing.T) {
	for _, q := range strange {
		for _, line := range lines {
			checkPut(t, q, line)
		}
	}
}

func TestP1701PutAtTheEndsOfTheRequests(t *testing.T) {
	for _, c := range []struct {
		q, line int
		want    string
	}{
		{api.QNone - 1, 0, "\x00\xFF"}, {api.QNone - 1, 1, "\x01\xFE"}, {api.QNone, 1, "\x01\xFE"}, {api.QStay, 0, "\x10\xEF"},
		{api.QLock, 1, "\x81\x7E"}, {api.QLock + 1, 0, "\x00\xFF"}, {api.QLock + 1, 1, "\x01\xFE"}, {16, 1, "\x01\xFE"},
		{math.MaxInt, 1, "\x01\xFE"}, {math.MinInt, 1, "\x01\xFE"}, {math.MaxInt, math.MinInt, "\x00\xFF"},
	} {
		if got := Put(c.q, c.line); string(got) != c.want {
			t.Errorf("Put(%d, %d) = % X, want % X", c.q, c.line, got, c.want)
		}
	}
}

func TestP1701PutOfNoLine(t *testing.T) {
	for _, q := range requests {
		for _, line := range noLine {
			checkPut(t, q, line)
		}
	}
}

func TestP1701PutOfNeither(t *testing.T) {
	for _, q := range strange {
		for _, line := range noLine {
			checkPut(t, q, line)
		}
	}
}

func TestP1701ReadOfEveryEncoding(t *testing.T) {
	for q, row := range encodings {
		for line, encoding := range row {
			checkRead(t, []byte(encoding), result{q, line, api.OK})
		}
	}
}

func TestP1701ReadOfEveryTwoBytes(t *testing.T) {
	accepted := 0
	for first := range 256 {
		for second := range 256 {
			b := []byte{byte(first), byte(second)}
			want := wantRead(b)
			checkRead(t, b, want)
			if want.errno == api.OK {
				accepted++
			}
		}
	}
	if accepted != 18 {
		t.Errorf("%d encodings, want 18", accepted)
	}
}

func TestP1701ReadOfTooFewBytes(t *testing.T) {
	checkRead(t, nil, failed(api.ErrShort))
	checkRead(t, []byte{}, failed(api.ErrShort))
	for first := range 256 {
		checkRead(t, []byte{byte(first)}, failed(api.ErrShort))
		// The second byte is there, but behind the end.
		checkRead(t, []byte{byte(first), ^byte(first)}[:1], failed(api.ErrShort))
		checkRead(t, []byte{byte(first), ^byte(first)}[:0], failed(api.ErrShort))
	}
}

func TestP1701ReadOfTooManyBytes(t *testing.T) {
	for _, row := range encodings {
		for _, encoding := range row {
			for _, more := range []int{1, 2, 3, 10, 253, 254, 255, 256, 65534, 65536} {
				zeros := append([]byte(encoding), make([]byte, more)...)
				checkRead(t, zeros, failed(api.ErrSyntax))
				copies := bytes.Repeat([]byte(encoding), more)
				checkRead(t, append(copies, encoding...), failed(api.ErrSyntax))
			}
			for last := range 256 {
				checkRead(t, append([]byte(encoding), byte(last)), failed(api.ErrSyntax))
				checkRead(t, append([]byte{byte(last)}, encoding...), failed(api.ErrSyntax))
			}
		}
	}
}

func TestP1701ReadWithoutTheComplement(t *testing.T) {
	for _, c := range []string{"\x00\x00", "\xFF\xFF", "\x10\x10", "\x50\x50", "\x00\xFE", "\x01\xFF", "\x10\xF0", "\x50\xB0", "\x80\x80", "\x81\x7F", "\xFF\x00", "\xEF\x10", "\x7E\x81", "\x7F\x80"} {
		checkRead(t, []byte(c), failed(api.ErrSyntax))
	}
}

func TestP1701ReadOfNoRequest(t *testing.T) {
	for q := api.QLock + 1; q < 16; q++ {
		for line := range 16 {
			first := byte(q*16 + line)
			checkRead(t, []byte{first, ^first}, failed(api.ErrSyntax))
		}
	}
}

func TestP1701ReadOfNoLine(t *testing.T) {
	for q := range 16 {
		for line := 2; line < 16; line++ {
			first := byte(q*16 + line)
			checkRead(t, []byte{first, ^first}, failed(api.ErrSyntax))
		}
	}
}

func TestP1701ReadTellsTheFirstError(t *testing.T) {
	for _, c := range []struct {
		b    string
		want api.Errno
	}{
		// Too short, and no such request or line.
		{"\x90", api.ErrShort}, {"\x02", api.ErrShort}, {"\xFF", api.ErrShort},
		// Too long, without the complement, and no such request and line.
		{"\x9F\x9F\x9F", api.ErrSyntax}, {"\x00\x00\xFF", api.ErrSyntax}, {"\xFF\x00\xFF", api.ErrSyntax},
		// Without the complement, and no such request or line.
		{"\x90\x90", api.ErrSyntax}, {"\x02\xFF", api.ErrSyntax}, {"\xFF\xFF", api.ErrSyntax},
	} {
		checkRead(t, []byte(c.b), failed(c.want))
	}
}

func TestP1702EveryErrorInOneBitIsDetected(t *testing.T) {
	for _, q := range numbers {
		for _, line := range numbers {
			encoding := Put(q, line)
			for i := range encoding {
				for bit := range 8 {
					b := slices.Clone(encoding)
					b[i] ^= 1 << bit
					checkRead(t, b, failed(api.ErrSyntax))
				}
			}
		}
	}
}

func TestP102PutReturnsNewMemory(t *testing.T) {
	for _, q := range numbers {
		for _, line := range numbers {
			want, _ := wantPut(q, line)
			one, other := Put(q, line), Put(q, line)
			clear(one[:cap(one)])
			if !bytes.Equal(other, want) {
				t.Errorf("Put(%d, %d) shares its memory with an earlier call", q, line)
			}
			if again := Put(q, line); !bytes.Equal(again, want) {
				t.Errorf("Put(%d, %d) = % X after an earlier result was changed, want % X", q, line, again, want)
			}
		}
	}
}

// inputs returns slices of several lengths, valid and invalid ones.
func inputs() [][]byte {
	all := [][]byte{nil, {}}
	for first := range 256 {
		c := byte(first)
		all = append(all, []byte{c}, []byte{c, ^c}, []byte{c, c}, []byte{c, ^c, c}, []byte{c, ^c, c, ^c})
	}
	return all
}

func TestP102ReadNeitherModifiesNorKeepsItsArgument(t *testing.T) {
	for _, in := range inputs() {
		whole := slices.Concat(in, []byte{0x50, 0xAF, 7, 8})
		before := slices.Clone(whole)
		want := wantRead(in)
		checkRead(t, whole[:len(in)], want)
		if !bytes.Equal(whole, before) {
			t.Errorf("Read(% X) changed the memory of its argument to % X", in, whole)
		}
		clear(whole)
		checkRead(t, in, want)
	}
}

// answers holds the results for one pair of numbers and one input.
type answers struct {
	encoding string
	back     result
}

func ask(q, line int, b []byte) answers {
	return answers{fmt.Sprintf("% X", Put(q, line)), read(b)}
}

func wantAnswers(q, line int, b []byte) answers {
	encoding, _ := wantPut(q, line)
	return answers{fmt.Sprintf("% X", encoding), wantRead(b)}
}

// forward and backward go through all pairs and inputs, so that each call follows different ones.
func forward(visit func(q, line int, b []byte)) {
	all := inputs()
	i := 0
	for _, q := range numbers {
		for _, line := range numbers {
			visit(q, line, all[i%len(all)])
			i++
		}
	}
}

func backward(visit func(q, line int, b []byte)) {
	all := inputs()
	i := len(numbers)*len(numbers) - 1
	for _, q := range slices.Backward(numbers) {
		for _, line := range slices.Backward(numbers) {
			visit(q, line, all[i%len(all)])
			i--
		}
	}
}

func TestP102ResultsDoNotDependOnEarlierCalls(t *testing.T) {
	check := func(q, line int, b []byte) {
		if got, want := ask(q, line, b), wantAnswers(q, line, b); got != want {
			t.Errorf("%d, %d, % X: %v, want %v", q, line, b, got, want)
		}
	}
	forward(check)
	backward(check)
	forward(check)
}

func TestP102ResultsDoNotDependOnCallsAtTheSameTime(t *testing.T) {
	var joined sync.WaitGroup
	for worker := range 4 {
		joined.Go(func() {
			walk := forward
			if worker%2 == 1 {
				walk = backward
			}
			walk(func(q, line int, b []byte) {
				if got, want := ask(q, line, b), wantAnswers(q, line, b); got != want {
					t.Errorf("%d, %d, % X: %v, want %v", q, line, b, got, want)
				}
			})
		})
	}
	joined.Wait()
}
