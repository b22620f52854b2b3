package backlog

import (
	"bytes"
	"math"
	"math/rand"
	"slices"
	"strconv"
	"sync"
	"testing"

	"signalman/api"
)

// pair holds what New is given and what that is limited to.
type pair struct{ given, limited int }

var (
	moduli = []pair{
		{8, 8}, {9, 9}, {15, 15}, {16, 16}, {17, 17}, {127, 127}, {128, 128}, {32767, 32767}, {32768, 32768},
		{7, 8}, {6, 8}, {1, 8}, {0, 8}, {-1, 8}, {-8, 8}, {-128, 8}, {-32768, 8}, {math.MinInt32, 8}, {math.MinInt + 1, 8}, {math.MinInt, 8},
		{32769, 32768}, {65536, 32768}, {65536 + 128, 32768}, {math.MaxInt32, 32768}, {1 << 32, 32768}, {1<<32 + 128, 32768}, {math.MaxInt - 1, 32768}, {math.MaxInt, 32768},
	}
	queues = []pair{
		{0, 0}, {1, 1}, {2, 2}, {7, 7}, {999, 999}, {1000, 1000},
		{-1, 0}, {-2, 0}, {-1000, 0}, {math.MinInt32, 0}, {-1 << 32, 0}, {math.MinInt + 1, 0}, {math.MinInt, 0},
		{1001, 1000}, {1002, 1000}, {2000, 1000}, {65536, 1000}, {math.MaxInt32, 1000}, {1 << 32, 1000}, {1<<32 + 1, 1000}, {math.MaxInt - 1, 1000}, {math.MaxInt, 1000},
	}
)

// windows returns windows for a modulus whose greatest one is most.
func windows(most int) []pair {
	all := []pair{
		{1, 1}, {0, 1}, {-1, 1}, {-2, 1}, {-most, 1}, {math.MinInt32, 1}, {-1 << 32, 1}, {math.MinInt + 1, 1}, {math.MinInt, 1},
		{most, most}, {most + 1, most}, {most + 2, most}, {8 * most, most}, {math.MaxInt32, most}, {1 << 32, most}, {1<<32 + 1, most}, {math.MaxInt - 1, most}, {math.MaxInt, most},
	}
	if most > 1 {
		all = append(all, pair{2, 2}, pair{most - 1, most - 1}, pair{(most + 1) / 2, (most + 1) / 2})
	}
	return all
}

// outside returns numbers that no message has, some of them congruent modulo m to those near n.
func outside(n, m int) []int {
	all := []int{
		-1, -2, n - m, n + m, n - m + 1, n - m - 1, n + m + 1, n + m - 1, n - 2*m, n + 2*m, n + 1000*m, n - 1000*m, -m, m, m + 1, 2*m - 1, 65536, 65536 + n,
		1 << 32, 1<<32 + n, -1<<32 + n, math.MaxInt32, math.MinInt32, math.MaxInt - 1, math.MaxInt, math.MinInt + 1, math.MinInt,
	}
	// A neighbour of the first or the last number can be the other one of these.
	return slices.DeleteFunc(all, func(n int) bool { return n >= 0 && n < m })
}

func add(t *testing.T, l *Log, messages ...string) {
	t.Helper()
	for _, b := range messages {
		if got := l.Add([]byte(b)); got != api.OK {
			t.Errorf("Add(%q) = %d", b, got)
		}
	}
}

func refuse(t *testing.T, l *Log, b string) {
	t.Helper()
	if got := l.Add([]byte(b)); got != api.ErrFull {
		t.Errorf("Add(%q) = %d, want ErrFull", b, got)
	}
}

func next(t *testing.T, l *Log, n int, want string) {
	t.Helper()
	if got, b, ok := l.Next(); got != n || string(b) != want || !ok {
		t.Errorf("Next() = %d, %q, %t, want %d, %q, true", got, b, ok, n, want)
	}
}

func noNext(t *testing.T, l *Log) {
	t.Helper()
	if got, b, ok := l.Next(); got != 0 || len(b) != 0 || ok {
		t.Errorf("Next() = %d, %q, %t, want 0, nothing, false", got, b, ok)
	}
}

func ack(t *testing.T, l *Log, n, want int) {
	t.Helper()
	if got, ok := l.Ack(n); got != want || !ok {
		t.Errorf("Ack(%d) = %d, %t, want %d, true", n, got, ok, want)
	}
}

func noAck(t *testing.T, l *Log, numbers ...int) {
	t.Helper()
	for _, n := range numbers {
		if got, ok := l.Ack(n); got != 0 || ok {
			t.Errorf("Ack(%d) = %d, %t, want 0, false", n, got, ok)
		}
	}
}

func noBody(t *testing.T, l *Log, numbers ...int) {
	t.Helper()
	for _, n := range numbers {
		if b, ok := l.Body(n); len(b) != 0 || ok {
			t.Errorf("Body(%d) = %q, %t, want nothing, false", n, b, ok)
		}
	}
}

// wantOut checks that wait messages wait, and that just the given messages are out, with the numbers from first on modulo m.
func wantOut(t *testing.T, l *Log, wait, first, m int, out ...string) {
	t.Helper()
	if got := l.Len(); got != wait+len(out) {
		t.Errorf("Len() = %d, want %d", got, wait+len(out))
	}
	var numbers []int
	for i, want := range out {
		n := (first + i) % m
		numbers = append(numbers, n)
		if b, ok := l.Body(n); string(b) != want || !ok {
			t.Errorf("Body(%d) = %q, %t, want %q, true", n, b, ok, want)
		}
	}
	if got := l.Out(); !slices.Equal(got, numbers) {
		t.Errorf("Out() = %v, want %v", got, numbers)
	}
	end := (first + len(out)) % m
	noBody(t, l, end, (end+1)%m, (first+m-1)%m, (first+m-2)%m, (first+m/2)%m)
	noBody(t, l, outside(first, m)...)
	noBody(t, l, outside(end, m)...)
}

// message returns the n-th of many messages that are all different.
func message(n int) string {
	return "message " + strconv.Itoa(n)
}

// at returns an empty log whose next number is n: messages up to it have been out and are acknowledged.
func at(t *testing.T, n, m, window, queue int) *Log {
	t.Helper()
	l := New(m, window, queue)
	for i := range n {
		add(t, l, "earlier")
		next(t, l, i, "earlier")
		ack(t, l, (i+1)%m, 1)
	}
	return l
}

// fill adds messages to an empty log, and makes the first sent of them out, with the numbers from first on.
func fill(t *testing.T, l *Log, first, m, sent int, messages ...string) {
	t.Helper()
	add(t, l, messages...)
	for i := range sent {
		next(t, l, (first+i)%m, messages[i])
	}
}

func TestP1301TheExample(t *testing.T) {
	for _, m := range moduli {
		for _, q := range queues {
			for _, w := range windows(m.limited / 8) {
				noNext(t, New(m.given, w.given, q.given))
			}
		}
	}
}

func TestP1301ANewLog(t *testing.T) {
	for _, m := range moduli {
		for _, q := range queues {
			l := New(m.given, 1, q.given)
			for range 2 {
				noNext(t, l)
				wantOut(t, l, 0, 0, m.limited)
				ack(t, l, 0, 0)
				noAck(t, l, 1, 2, m.limited-1, m.limited/2)
				noAck(t, l, outside(0, m.limited)...)
				wantOut(t, l, 0, 0, m.limited)
				if got := l.Clear(); got != 0 {
					t.Errorf("New(%d, 1, %d): Clear() = %d", m.given, q.given, got)
				}
			}
		}
	}
}

func TestP1301TheModulusIsLimited(t *testing.T) {
	for _, m := range moduli {
		for _, window := range []int{1, math.MaxInt, math.MinInt} {
			l := New(m.given, window, 1)
			// Twice around, and some more.
			for i := range 2*m.limited + 3 {
				n, after := i%m.limited, (i+1)%m.limited
				if e := l.Add(nil); e != api.OK {
					t.Fatalf("New(%d, %d, 1): Add = %d", m.given, window, e)
				}
				if got, _, ok := l.Next(); got != n || !ok {
					t.Fatalf("New(%d, %d, 1): Next() = %d, %t, want %d", m.given, window, got, ok, n)
				}
				if got, ok := l.Ack(after); got != 1 || !ok {
					t.Fatalf("New(%d, %d, 1): Ack(%d) = %d, %t", m.given, window, after, got, ok)
				}
			}
		}
	}
}

// countOut adds messages and makes them out until no more may be.
func countOut(l *Log) int {
	count := 0
	for range 32768 {
		l.Add(nil)
		if _, _, ok := l.Next(); !ok {
			break
		}
		count++
	}
	return count
}

func TestP1301TheWindowIsLimited(t *testing.T) {
	for _, m := range moduli {
		for _, w := range windows(m.limited / 8) {
			for _, queue := range []int{1, 1000} {
				l := New(m.given, w.given, queue)
				for round := range 2 {
					if got := countOut(l); got != w.limited {
						t.Errorf("New(%d, %d, %d): %d out, want %d", m.given, w.given, queue, got, w.limited)
					}
					noNext(t, l)
					if got := len(l.Out()); got != w.limited {
						t.Errorf("New(%d, %d, %d): Out of %d numbers, want %d", m.given, w.given, queue, got, w.limited)
					}
					// The message that waits becomes out when one of the others is acknowledged, and no other then.
					if round == 0 {
						ack(t, l, 1, 1)
						next(t, l, w.limited, "")
						noNext(t, l)
						l.Clear()
					}
				}
			}
		}
	}
}

func TestP1301WindowsOfKnownModuli(t *testing.T) {
	for _, x := range []struct{ m, most int }{
		{8, 1}, {9, 1}, {15, 1}, {16, 2}, {17, 2}, {23, 2}, {24, 3}, {63, 7}, {64, 8}, {71, 8}, {127, 15}, {128, 16}, {129, 16}, {32767, 4095}, {32768, 4096}, {0, 1}, {math.MaxInt, 4096},
	} {
		for _, window := range []int{x.most, x.most + 1, math.MaxInt} {
			if got := countOut(New(x.m, window, 5)); got != x.most {
				t.Errorf("New(%d, %d, 5): %d out, want %d", x.m, window, got, x.most)
			}
		}
	}
}

func TestP1301TheQueueIsLimited(t *testing.T) {
	for _, q := range queues {
		for _, m := range []int{8, 128, math.MinInt, math.MaxInt} {
			for _, window := range []int{1, 16, math.MinInt, math.MaxInt} {
				l := New(m, window, q.given)
				for range 2 {
					for i := range q.limited {
						if e := l.Add([]byte{byte(i)}); e != api.OK || l.Len() != i+1 {
							t.Fatalf("New(%d, %d, %d): Add of message %d = %d, Len() = %d", m, window, q.given, i, e, l.Len())
						}
					}
					for range 3 {
						refuse(t, l, "one more")
						refuse(t, l, "")
						if l.Len() != q.limited {
							t.Fatalf("New(%d, %d, %d): Len() = %d, want %d", m, window, q.given, l.Len(), q.limited)
						}
					}
					l.Clear()
				}
			}
		}
	}
}

func TestP1301ALogWithoutQueue(t *testing.T) {
	for _, queue := range []int{0, -1, math.MinInt} {
		l := New(128, 16, queue)
		for range 3 {
			refuse(t, l, "a")
			refuse(t, l, "")
			if e := l.Add(nil); e != api.ErrFull {
				t.Errorf("Add(nil) = %d", e)
			}
			noNext(t, l)
			ack(t, l, 0, 0)
			noAck(t, l, 1, 127)
			wantOut(t, l, 0, 0, 128)
			if got := l.Clear(); got != 0 {
				t.Errorf("Clear() = %d", got)
			}
		}
	}
}

// TestP1301OnlyMessagesThatWaitFillTheQueue makes messages out, so that others can wait: as many as queue beside the whole window.
func TestP1301OnlyMessagesThatWaitFillTheQueue(t *testing.T) {
	l := New(32, 4, 2)
	add(t, l, "a", "b")
	refuse(t, l, "x")
	next(t, l, 0, "a")
	add(t, l, "c")
	refuse(t, l, "x")
	next(t, l, 1, "b")
	next(t, l, 2, "c")
	add(t, l, "d", "e")
	refuse(t, l, "x")
	next(t, l, 3, "d")
	noNext(t, l)
	add(t, l, "f")
	refuse(t, l, "x")
	wantOut(t, l, 2, 0, 32, "a", "b", "c", "d")
	// What is acknowledged makes no room among those that wait.
	ack(t, l, 2, 2)
	refuse(t, l, "x")
	wantOut(t, l, 2, 2, 32, "c", "d")
	next(t, l, 4, "e")
	add(t, l, "g")
	refuse(t, l, "x")
	next(t, l, 5, "f")
	noNext(t, l)
	wantOut(t, l, 1, 2, 32, "c", "d", "e", "f")
	ack(t, l, 6, 4)
	next(t, l, 6, "g")
	wantOut(t, l, 0, 6, 32, "g")
}

func TestP1301ARefusedMessageChangesNothing(t *testing.T) {
	for _, first := range []int{0, 14, 15} {
		l := at(t, first, 16, 2, 2)
		fill(t, l, first, 16, 1, "a", "b")
		add(t, l, "c")
		for range 5 {
			refuse(t, l, "x")
			wantOut(t, l, 2, first, 16, "a")
		}
		next(t, l, (first+1)%16, "b")
		noNext(t, l)
		ack(t, l, (first+2)%16, 2)
		next(t, l, (first+2)%16, "c")
		noNext(t, l)
		wantOut(t, l, 0, (first+2)%16, 16, "c")
	}
}

func TestP1301MessagesWithoutOctets(t *testing.T) {
	l := New(24, 3, 3)
	for _, b := range [][]byte{nil, {}, make([]byte, 0, 9)} {
		if e := l.Add(b); e != api.OK {
			t.Errorf("Add of nothing = %d", e)
		}
	}
	wantOut(t, l, 3, 0, 24)
	refuse(t, l, "")
	for n := range 3 {
		next(t, l, n, "")
	}
	wantOut(t, l, 0, 0, 24, "", "", "")
	add(t, l, "", "a", "")
	refuse(t, l, "")
	ack(t, l, 1, 1)
	next(t, l, 3, "")
	ack(t, l, 4, 3)
	next(t, l, 4, "a")
	next(t, l, 5, "")
	wantOut(t, l, 0, 4, 24, "a", "")
	if got := l.Clear(); got != 2 {
		t.Errorf("Clear() = %d", got)
	}
}

func TestP1301LongMessages(t *testing.T) {
	l := New(16, 2, 2)
	long := bytes.Repeat([]byte{0, 1, 0x7E, 0xFF}, 1<<18)
	for n, b := range [][]byte{long, long[1:]} {
		if e := l.Add(b); e != api.OK {
			t.Errorf("Add of %d octets = %d", len(b), e)
		}
		if got, out, ok := l.Next(); got != n || !bytes.Equal(out, b) || !ok {
			t.Errorf("Next() = %d, %d octets, %t", got, len(out), ok)
		}
		if out, ok := l.Body(n); !bytes.Equal(out, b) || !ok {
			t.Errorf("Body(%d) = %d octets, %t", n, len(out), ok)
		}
	}
}

func TestP1301NextWithoutAMessage(t *testing.T) {
	l := New(24, 3, 5)
	for range 3 {
		noNext(t, l)
	}
	add(t, l, "a")
	next(t, l, 0, "a")
	for range 3 {
		// No message waits, though fewer than window are out; no number is used up.
		noNext(t, l)
		wantOut(t, l, 0, 0, 24, "a")
	}
	add(t, l, "b")
	next(t, l, 1, "b")
	noNext(t, l)
	ack(t, l, 2, 2)
	noNext(t, l)
	add(t, l, "c")
	next(t, l, 2, "c")
	wantOut(t, l, 0, 2, 24, "c")
}

// TestP1301NextAtTheWindow makes fewer messages out than window, just as many, and tries one more.
func TestP1301NextAtTheWindow(t *testing.T) {
	for _, window := range []int{1, 2, 3, 16} {
		for _, first := range []int{0, 100, 126, 127} {
			l := at(t, first, 128, window, 1000)
			var all []string
			for i := range window + 5 {
				all = append(all, message(i))
				add(t, l, all[i])
			}
			for i := range window {
				wantOut(t, l, window+5-i, first, 128, all[:i]...)
				next(t, l, (first+i)%128, all[i])
			}
			for range 3 {
				noNext(t, l)
				wantOut(t, l, 5, first, 128, all[:window]...)
			}
			for i := range 5 {
				ack(t, l, (first+i+1)%128, 1)
				wantOut(t, l, 5-i, (first+i+1)%128, 128, all[i+1:window+i]...)
				next(t, l, (first+window+i)%128, all[window+i])
				noNext(t, l)
			}
			ack(t, l, (first+window+5)%128, window)
			noNext(t, l)
			wantOut(t, l, 0, (first+window+5)%128, 128)
		}
	}
}

// TestP1301TheOrderIsKept sends many messages around the numbers, by windows that are acknowledged in parts.
func TestP1301TheOrderIsKept(t *testing.T) {
	for _, x := range []struct{ m, window, queue, most int }{
		{8, 1, 1, 1}, {15, 9, 3, 1}, {16, 2, 1, 2}, {17, 2, 1000, 2}, {24, 3, 2, 3}, {128, 16, 5, 16}, {128, 5, 1000, 5}, {1000, 125, 40, 125}, {32768, 4096, 1000, 4096},
	} {
		random := rand.New(rand.NewSource(int64(x.m)))
		l := New(x.m, x.window, x.queue)
		count := max(3*x.m, 1000)
		given, sent, acked := 0, 0, 0
		for round := 0; acked < count; round++ {
			if round > 100*count {
				t.Fatalf("%v: only %d messages were acknowledged", x, acked)
			}
			for range random.Intn(x.queue + 2) {
				full := given-sent == x.queue
				if e := l.Add([]byte(message(given))); (e == api.ErrFull) != full || !full && e != api.OK {
					t.Fatalf("%v: Add of message %d, with %d that wait: %d", x, given, given-sent, e)
				}
				if !full {
					given++
				}
			}
			for range random.Intn(x.most + 2) {
				n, b, ok := l.Next()
				if want := sent < given && sent-acked < x.most; ok != want {
					t.Fatalf("%v: Next with %d that wait and %d out: %t", x, given-sent, sent-acked, ok)
				}
				if !ok {
					break
				}
				if n != sent%x.m || string(b) != message(sent) {
					t.Fatalf("%v: Next() = %d, %q, want %d, %q", x, n, b, sent%x.m, message(sent))
				}
				sent++
			}
			removed := random.Intn(sent - acked + 1)
			if got, ok := l.Ack((acked + removed) % x.m); got != removed || !ok {
				t.Fatalf("%v: Ack(%d) = %d, %t, want %d", x, (acked+removed)%x.m, got, ok, removed)
			}
			acked += removed
			if l.Len() != given-acked {
				t.Fatalf("%v: Len() = %d, want %d", x, l.Len(), given-acked)
			}
		}
	}
}

// TestP1301AckOfEachNumber acknowledges up to each of four messages that are out, and up to the next number, where the numbers wrap around and where they do not.
func TestP1301AckOfEachNumber(t *testing.T) {
	all := []string{"a", "b", "c", "d", "e", "f"}
	for _, m := range []int{32, 33, 39, 128} {
		for _, first := range []int{0, 1, 7, m - 5, m - 4, m - 3, m - 2, m - 1} {
			for removed := range 5 {
				l := at(t, first, m, 4, 6)
				fill(t, l, first, m, 4, all...)
				n := (first + removed) % m
				ack(t, l, n, removed)
				wantOut(t, l, 2, n, m, all[removed:4]...)
				// The same number again removes nothing more.
				ack(t, l, n, 0)
				wantOut(t, l, 2, n, m, all[removed:4]...)
				// What was removed makes room in the window, and the numbers go on.
				for i := 4; i < min(4+removed, 6); i++ {
					next(t, l, (first+i)%m, all[i])
				}
				if removed < 3 {
					noNext(t, l)
				}
				wantOut(t, l, max(2-removed, 0), n, m, all[removed:min(4+removed, 6)]...)
			}
		}
	}
}

// TestP1301AckOfOtherNumbers tries all numbers modulo m, and others, with each number of messages that are out.
func TestP1301AckOfOtherNumbers(t *testing.T) {
	all := []string{"a", "b", "c", "d", "e", "f"}
	for _, m := range []int{32, 37, 128} {
		for _, first := range []int{0, 1, 9, m - 4, m - 3, m - 2, m - 1} {
			for sent := range 5 {
				l := at(t, first, m, 4, 6)
				fill(t, l, first, m, sent, all...)
				for ahead := sent + 1; ahead < m; ahead++ {
					noAck(t, l, (first+ahead)%m)
				}
				noAck(t, l, outside(first, m)...)
				noAck(t, l, outside((first+sent)%m, m)...)
				wantOut(t, l, 6-sent, first, m, all[:sent]...)
				// The refused numbers have turned nothing that comes later.
				for i := sent; i < 4; i++ {
					next(t, l, (first+i)%m, all[i])
				}
				noNext(t, l)
				wantOut(t, l, 2, first, m, all[:4]...)
				ack(t, l, (first+4)%m, 4)
				wantOut(t, l, 2, (first+4)%m, m)
			}
		}
	}
}

func TestP1301AckWithKnownNumbers(t *testing.T) {
	l := New(16, 2, 9)
	add(t, l, "a", "b", "c", "d", "e")
	ack(t, l, 0, 0)
	noAck(t, l, 1, 15, -1, 16)
	next(t, l, 0, "a")
	next(t, l, 1, "b")
	// 15 is before the first number that is out, 3 behind the next one; -16 and 16 are congruent to 0, 17 to 1, 18 to 2.
	noAck(t, l, 15, 14, 3, 4, 8, -1, -14, -15, -16, 16, 17, 18, math.MinInt, math.MaxInt)
	wantOut(t, l, 3, 0, 16, "a", "b")
	ack(t, l, 0, 0)
	ack(t, l, 1, 1)
	noAck(t, l, 0, 3, 17)
	wantOut(t, l, 3, 1, 16, "b")
	next(t, l, 2, "c")
	ack(t, l, 3, 2)
	wantOut(t, l, 2, 3, 16)
	noAck(t, l, 2, 4, 0, 15, 19, -13)
	ack(t, l, 3, 0)
	next(t, l, 3, "d")
	noAck(t, l, 2, 5)
	ack(t, l, 3, 0)
	ack(t, l, 4, 1)
	wantOut(t, l, 1, 4, 16)
}

// TestP1301AckWithNothingOut tries all numbers on logs without messages and on logs with messages that wait.
func TestP1301AckWithNothingOut(t *testing.T) {
	for _, m := range []int{8, 9, 15, 16, 128} {
		for first := range m {
			for _, waiting := range []int{0, 2} {
				l := at(t, first, m, 1, 3)
				fill(t, l, first, m, 0, []string{"a", "b"}[:waiting]...)
				for n := range m {
					if n != first {
						noAck(t, l, n)
					}
				}
				noAck(t, l, outside(first, m)...)
				for range 3 {
					ack(t, l, first, 0)
				}
				wantOut(t, l, waiting, first, m)
				if waiting > 0 {
					next(t, l, first, "a")
				} else {
					noNext(t, l)
				}
			}
		}
	}
}

func TestP1301AckInTheWidestWindow(t *testing.T) {
	for _, first := range []int{0, 1, 28671, 28672, 28673, 30000, 32767} {
		l := at(t, first, 32768, 4096, 1000)
		for i := range 4096 {
			add(t, l, message(i))
			next(t, l, (first+i)%32768, message(i))
		}
		add(t, l, "last")
		noNext(t, l)
		noAck(t, l, (first+4097)%32768, (first+32767)%32768, (first+16384)%32768, first+32768, first-32768)
		if got := l.Out(); len(got) != 4096 || got[0] != first || got[4095] != (first+4095)%32768 {
			t.Errorf("Out() of %d numbers", len(got))
		}
		ack(t, l, (first+4095)%32768, 4095)
		wantOut(t, l, 1, (first+4095)%32768, 32768, message(4095))
		noAck(t, l, first, (first+4094)%32768)
		next(t, l, (first+4096)%32768, "last")
		ack(t, l, (first+4097)%32768, 2)
		wantOut(t, l, 0, (first+4097)%32768, 32768)
	}
}

// TestP1301BodyOfOtherMessages asks for a message that waits, and for one that was acknowledged.
func TestP1301BodyOfOtherMessages(t *testing.T) {
	l := New(24, 3, 5)
	add(t, l, "a", "b", "c", "d")
	noBody(t, l, 0, 1, 2, 3, 4, 23)
	next(t, l, 0, "a")
	next(t, l, 1, "b")
	wantOut(t, l, 2, 0, 24, "a", "b")
	noBody(t, l, 2, 3, 4, 23, -1, -24, -23, 24, 25, math.MinInt, math.MaxInt)
	ack(t, l, 1, 1)
	noBody(t, l, 0, 2, 3, 24, 25, -23)
	wantOut(t, l, 2, 1, 24, "b")
	ack(t, l, 2, 1)
	for n := range 24 {
		noBody(t, l, n)
	}
	wantOut(t, l, 2, 2, 24)
	next(t, l, 2, "c")
	noBody(t, l, 0, 1, 3)
	wantOut(t, l, 1, 2, 24, "c")
	l.Clear()
	for n := range 24 {
		noBody(t, l, n)
	}
}

func TestP1301BodyOfEveryNumber(t *testing.T) {
	for _, m := range []int{24, 31} {
		for first := range m {
			for sent := range 4 {
				l := at(t, first, m, 3, 4)
				fill(t, l, first, m, sent, "a", "b", "c", "d")
				for ahead := range m {
					n := (first + ahead) % m
					if ahead >= sent {
						noBody(t, l, n)
					} else if b, ok := l.Body(n); string(b) != "abc"[ahead:ahead+1] || !ok {
						t.Errorf("m %d, %d out from %d on: Body(%d) = %q, %t", m, sent, first, n, b, ok)
					}
				}
			}
		}
	}
}

func TestP1301AskingChangesNothing(t *testing.T) {
	l := at(t, 15, 16, 2, 3)
	fill(t, l, 15, 16, 2, "a", "b", "c")
	for range 5 {
		wantOut(t, l, 1, 15, 16, "a", "b")
		noNext(t, l)
		ack(t, l, 15, 0)
	}
	ack(t, l, 1, 2)
	next(t, l, 1, "c")
}

func TestP1301LenCountsAllMessages(t *testing.T) {
	l := New(24, 3, 4)
	wantLen := func(want int) {
		t.Helper()
		if got := l.Len(); got != want {
			t.Errorf("Len() = %d, want %d", got, want)
		}
	}
	wantLen(0)
	for i := range 4 {
		add(t, l, message(i))
		wantLen(i + 1)
	}
	refuse(t, l, "x")
	wantLen(4)
	for i := range 3 {
		next(t, l, i, message(i))
		wantLen(4)
	}
	noNext(t, l)
	wantLen(4)
	add(t, l, "e", "f", "g")
	wantLen(7)
	refuse(t, l, "x")
	wantLen(7)
	noAck(t, l, 4, 23)
	wantLen(7)
	ack(t, l, 2, 2)
	wantLen(5)
	ack(t, l, 3, 1)
	wantLen(4)
	l.Clear()
	wantLen(0)
}

// TestP1301Clear clears logs with up to two messages that wait and up to four that are out.
func TestP1301Clear(t *testing.T) {
	all := []string{"a", "b", "c", "d", "e", "f"}
	for _, first := range []int{0, 1, 5, 29, 30, 31} {
		for sent := range 5 {
			for wait := range 3 {
				l := at(t, first, 32, 4, 6)
				fill(t, l, first, 32, sent, all[:sent+wait]...)
				if got := l.Clear(); got != sent+wait {
					t.Errorf("%d out, %d wait: Clear() = %d", sent, wait, got)
				}
				for range 2 {
					noNext(t, l)
					for n := 1; n < 32; n++ {
						noAck(t, l, n)
					}
					ack(t, l, 0, 0)
					wantOut(t, l, 0, 0, 32)
					if got := l.Clear(); got != 0 {
						t.Errorf("%d out, %d wait: second Clear() = %d", sent, wait, got)
					}
				}
				// The whole window and the whole queue are free, and numbers begin with 0.
				fill(t, l, 0, 32, 4, "1", "2", "3", "4", "5", "6")
				noNext(t, l)
				add(t, l, "7", "8", "9", "10")
				refuse(t, l, "x")
				wantOut(t, l, 6, 0, 32, "1", "2", "3", "4")
				ack(t, l, 4, 4)
				next(t, l, 4, "5")
				if got := l.Clear(); got != 6 {
					t.Errorf("%d out, %d wait: third Clear() = %d", sent, wait, got)
				}
			}
		}
	}
}

func TestP1301ClearKeepsTheLimits(t *testing.T) {
	for _, x := range []struct{ m, window, queue, most, wait int }{
		{17, 9, 3, 2, 3}, {math.MinInt, math.MaxInt, math.MinInt, 1, 0}, {128, 5, 1001, 5, 1000}, {64, -1, 1, 1, 1},
	} {
		l := New(x.m, x.window, x.queue)
		for range 3 {
			wait := 0
			for wait < 2000 && l.Add(nil) == api.OK {
				wait++
			}
			out := countOut(l)
			if wait != x.wait || out != min(x.most, wait*x.most) {
				t.Errorf("%v: %d wait, %d out", x, wait, out)
			}
			l.Clear()
		}
	}
}

// model is a log in the plainest form: each message beside its number.
type model struct {
	m, window, queue, next int
	wait                   []string
	out                    []numbered
}

type numbered struct {
	n int
	b string
}

func newModel(m, window, queue int) *model {
	return &model{m: m, window: window, queue: queue}
}

func (x *model) add(b string) api.Errno {
	if len(x.wait) == x.queue {
		return api.ErrFull
	}
	x.wait = append(x.wait, b)
	return api.OK
}

func (x *model) step() (int, string, bool) {
	if len(x.wait) == 0 || len(x.out) == x.window {
		return 0, "", false
	}
	first := numbered{x.next, x.wait[0]}
	x.out, x.wait = append(x.out, first), x.wait[1:]
	x.next++
	if x.next == x.m {
		x.next = 0
	}
	return first.n, first.b, true
}

func (x *model) ack(n int) (int, bool) {
	i := slices.IndexFunc(x.out, func(o numbered) bool { return o.n == n })
	if n == x.next {
		i = len(x.out)
	}
	if i < 0 {
		return 0, false
	}
	x.out = x.out[i:]
	return i, true
}

func (x *model) clear() int {
	count := len(x.wait) + len(x.out)
	x.wait, x.out, x.next = nil, nil, 0
	return count
}

// compare holds all that can be asked of a log against its model.
func compare(t *testing.T, l *Log, x *model) {
	t.Helper()
	var numbers []int
	for _, o := range x.out {
		numbers = append(numbers, o.n)
		if b, ok := l.Body(o.n); string(b) != o.b || !ok {
			t.Fatalf("Body(%d) = %q, %t, want %q, true", o.n, b, ok, o.b)
		}
	}
	if got := l.Out(); !slices.Equal(got, numbers) {
		t.Fatalf("Out() = %v, want %v", got, numbers)
	}
	if got := l.Len(); got != len(x.wait)+len(x.out) {
		t.Fatalf("Len() = %d, want %d", got, len(x.wait)+len(x.out))
	}
	for _, n := range []int{x.next, x.next - 1, x.next + 1, x.next - len(x.out), x.next - len(x.out) - 1, x.next + x.m, x.next - x.m} {
		if b, ok := l.Body(n); ok != slices.Contains(numbers, n) {
			t.Fatalf("Body(%d) = %q, %t, with %v out", n, b, ok, numbers)
		}
	}
}

// someNumber returns a number that is out, one nearby, one that is congruent to one of these, or any.
func someNumber(random *rand.Rand, x *model) int {
	n := (x.next + x.m - random.Intn(len(x.out)+3) + random.Intn(3)) % x.m
	switch random.Intn(8) {
	case 0:
		return n + x.m*(random.Intn(5)-2)
	case 1:
		return random.Intn(x.m)
	case 2:
		return int(random.Uint64())
	}
	return n
}

// act lets the same call happen to a log and its model.
func act(t *testing.T, random *rand.Rand, l *Log, x *model) {
	t.Helper()
	switch random.Intn(8) {
	case 0, 1, 2:
		b := make([]byte, random.Intn(4))
		random.Read(b)
		if got, want := l.Add(b), x.add(string(b)); got != want {
			t.Fatalf("Add(%q) = %d, want %d", b, got, want)
		}
	case 3, 4, 5:
		n, b, ok := l.Next()
		if wantN, wantB, want := x.step(); n != wantN || string(b) != wantB || ok != want {
			t.Fatalf("Next() = %d, %q, %t, want %d, %q, %t", n, b, ok, wantN, wantB, want)
		}
	case 6:
		n := someNumber(random, x)
		got, ok := l.Ack(n)
		if count, want := x.ack(n); got != count || ok != want {
			t.Fatalf("Ack(%d) = %d, %t, want %d, %t", n, got, ok, count, want)
		}
	default:
		if random.Intn(50) > 0 {
			return
		}
		if got, want := l.Clear(), x.clear(); got != want {
			t.Fatalf("Clear() = %d, want %d", got, want)
		}
	}
}

func TestP1301RandomCalls(t *testing.T) {
	random := rand.New(rand.NewSource(13))
	for _, x := range []struct{ m, window, queue int }{
		{8, 1, 1}, {8, 1, 3}, {15, 1, 2}, {16, 2, 1}, {16, 2, 5}, {17, 2, 4}, {24, 3, 3}, {33, 4, 1}, {64, 8, 2}, {65, 8, 20}, {128, 16, 10}, {32768, 20, 5}, {40, 5, 0},
	} {
		for range 5 {
			l, same := New(x.m, x.window, x.queue), newModel(x.m, x.window, x.queue)
			for range 4000 {
				act(t, random, l, same)
				compare(t, l, same)
			}
		}
	}
}

// TestP1301AllRowsOfCalls lets all rows of seven calls happen that are possible, near the end of the numbers and at their beginning.
func TestP1301AllRowsOfCalls(t *testing.T) {
	const kinds, length = 7, 7
	rows := 1
	for range length {
		rows *= kinds
	}
	for row := range rows {
		l, x := New(16, 2, 2), newModel(16, 2, 2)
		if row%2 == 1 {
			for n := range 15 {
				l.Add(nil)
				x.add("")
				l.Next()
				x.step()
				l.Ack(n + 1)
				x.ack(n + 1)
			}
		}
		for call := range length {
			step(t, l, x, row%kinds, call)
			row /= kinds
		}
		compare(t, l, x)
	}
}

// step lets a call of a kind happen to a log and its model.
func step(t *testing.T, l *Log, x *model, kind, call int) {
	t.Helper()
	switch kind {
	case 0, 1:
		b := "ab"[:kind] + strconv.Itoa(call)
		if got, want := l.Add([]byte(b)), x.add(b); got != want {
			t.Fatalf("Add(%q) = %d, want %d", b, got, want)
		}
	case 2:
		n, b, ok := l.Next()
		if wantN, wantB, want := x.step(); n != wantN || string(b) != wantB || ok != want {
			t.Fatalf("Next() = %d, %q, %t, want %d, %q, %t", n, b, ok, wantN, wantB, want)
		}
	case 3, 4, 5:
		// The next number, the one before it and the one before that.
		n := (x.next + 16 + 3 - kind) % 16
		got, ok := l.Ack(n)
		if count, want := x.ack(n); got != count || ok != want {
			t.Fatalf("Ack(%d) = %d, %t, want %d, %t", n, got, ok, count, want)
		}
	default:
		if got, want := l.Clear(), x.clear(); got != want {
			t.Fatalf("Clear() = %d, want %d", got, want)
		}
	}
}

func TestP1302Independent(t *testing.T) {
	random := rand.New(rand.NewSource(1302))
	var logs []*Log
	var models []*model
	for _, x := range []struct{ m, window, queue int }{{16, 2, 3}, {16, 2, 3}, {16, 2, 3}, {8, 1, 1}, {128, 16, 8}, {32768, 9, 4}} {
		logs = append(logs, New(x.m, x.window, x.queue))
		models = append(models, newModel(x.m, x.window, x.queue))
	}
	for range 20000 {
		i := random.Intn(len(logs))
		act(t, random, logs[i], models[i])
		for k, l := range logs {
			compare(t, l, models[k])
		}
	}
}

func TestP1302TwoLogsByTurns(t *testing.T) {
	a, b := New(16, 2, 2), New(16, 2, 2)
	add(t, a, "a0", "a1")
	wantOut(t, b, 0, 0, 16)
	noNext(t, b)
	add(t, b, "b0")
	refuse(t, a, "x")
	next(t, a, 0, "a0")
	next(t, b, 0, "b0")
	next(t, a, 1, "a1")
	add(t, b, "b1", "b2")
	next(t, b, 1, "b1")
	ack(t, a, 2, 2)
	wantOut(t, b, 1, 0, 16, "b0", "b1")
	noNext(t, b)
	noNext(t, a)
	if got := b.Clear(); got != 3 {
		t.Errorf("Clear() = %d", got)
	}
	add(t, a, "a2")
	next(t, a, 2, "a2")
	wantOut(t, a, 0, 2, 16, "a2")
	wantOut(t, b, 0, 0, 16)
	New(16, 2, 2).Clear()
	wantOut(t, a, 0, 2, 16, "a2")
}

// TestP1302SameCallsSameAnswers is about answers that hang on anything but the calls on the same log (P102).
func TestP1302SameCallsSameAnswers(t *testing.T) {
	var first []int
	for round := range 4 {
		random := rand.New(rand.NewSource(5))
		l, x := New(40, 5, 4), newModel(40, 5, 4)
		var told []int
		for range 2000 {
			act(t, random, l, x)
			told = append(append(told, l.Len()), l.Out()...)
		}
		if round == 0 {
			first = told
		} else if !slices.Equal(told, first) {
			t.Errorf("round %d tells other numbers than the first one", round)
		}
	}
}

func TestP1302Goroutines(t *testing.T) {
	var joined sync.WaitGroup
	for i := range 8 {
		joined.Go(func() {
			l := New(16+i, 2, 2)
			for n := range 5000 {
				want := message(i*10000 + n)
				l.Add([]byte(want))
				if got, b, ok := l.Next(); got != n%(16+i) || string(b) != want || !ok {
					t.Errorf("log %d: Next() = %d, %q, %t", i, got, b, ok)
					return
				}
				if got, ok := l.Ack((n + 1) % (16 + i)); got != 1 || !ok {
					t.Errorf("log %d: Ack(%d) = %d, %t", i, (n+1)%(16+i), got, ok)
					return
				}
			}
		})
	}
	joined.Wait()
}

// spoil changes all of a slice, also what lies behind its end.
func spoil(b []byte) {
	b = b[:cap(b)]
	for i := range b {
		b[i] ^= 0xFF
	}
}

func TestP102AddKeepsNoArgument(t *testing.T) {
	l := New(24, 3, 9)
	memory := []byte("abcdef")
	for _, part := range [][]byte{memory[:2], memory[2:3], memory[1:6], memory[:0], memory} {
		if e := l.Add(part); e != api.OK {
			t.Errorf("Add(%q) = %d", part, e)
		}
	}
	if string(memory) != "abcdef" {
		t.Errorf("Add makes the bytes %q", memory)
	}
	next(t, l, 0, "ab")
	spoil(memory)
	// Of a message that is out, and of those that wait.
	wantOut(t, l, 4, 0, 24, "ab")
	next(t, l, 1, "c")
	next(t, l, 2, "bcdef")
	wantOut(t, l, 2, 0, 24, "ab", "c", "bcdef")
	ack(t, l, 3, 3)
	next(t, l, 3, "")
	next(t, l, 4, "abcdef")
	wantOut(t, l, 0, 3, 24, "", "abcdef")
}

func TestP102AddDoesNotModifyItsArgument(t *testing.T) {
	for _, queue := range []int{0, 1, 5} {
		for n := range 20 {
			memory := bytes.Repeat([]byte{0xA5}, 24)
			l := New(16, 2, queue)
			for range 4 {
				l.Add(memory[:n])
				l.Next()
				l.Ack(1)
				l.Clear()
			}
			if !bytes.Equal(memory, bytes.Repeat([]byte{0xA5}, 24)) {
				t.Errorf("queue %d: Add of %d octets makes % X", queue, n, memory)
			}
		}
	}
}

func TestP102ResultsAreNewMemory(t *testing.T) {
	l := New(24, 3, 5)
	add(t, l, "abc", "", "d", "efg")
	for n, want := range []string{"abc", "", "d"} {
		got, b, ok := l.Next()
		if got != n || string(b) != want || !ok {
			t.Errorf("Next() = %d, %q, %t", got, b, ok)
		}
		spoil(b)
	}
	wantOut(t, l, 1, 0, 24, "abc", "", "d")
	for n := range 3 {
		first, _ := l.Body(n)
		second, _ := l.Body(n)
		before := slices.Clone(second)
		spoil(first)
		if !bytes.Equal(second, before) {
			t.Errorf("Body(%d): two results share memory", n)
		}
	}
	wantOut(t, l, 1, 0, 24, "abc", "", "d")
	first, second := l.Out(), l.Out()
	for i := range first[:cap(first)] {
		first[:cap(first)][i] = 99
	}
	if !slices.Equal(second, []int{0, 1, 2}) {
		t.Errorf("Out(): two results share memory: %v", second)
	}
	wantOut(t, l, 1, 0, 24, "abc", "", "d")
	// What was appended to a result does not reach the next message.
	_ = append(second, 99)
	body, _ := l.Body(2)
	_ = append(body, "xyz"...)
	ack(t, l, 2, 2)
	next(t, l, 3, "efg")
	wantOut(t, l, 0, 2, 24, "d", "efg")
}

func TestP102ResultsAreNotChangedLater(t *testing.T) {
	l := New(16, 2, 3)
	add(t, l, "abc", "def")
	_, sent, _ := l.Next()
	l.Next()
	body, _ := l.Body(1)
	out := l.Out()
	ack(t, l, 2, 2)
	for i := range 100 {
		add(t, l, "xyz")
		next(t, l, (2+i)%16, "xyz")
		ack(t, l, (3+i)%16, 1)
	}
	l.Clear()
	add(t, l, "uvw", "rst")
	next(t, l, 0, "uvw")
	if string(sent) != "abc" || string(body) != "def" || !slices.Equal(out, []int{0, 1}) {
		t.Errorf("the results became %q, %q, %v", sent, body, out)
	}
}

// TestAcknowledgedMessagesAreForgotten looks into the memory in front of the messages that are held: it must not keep those that were removed.
func TestAcknowledgedMessagesAreForgotten(t *testing.T) {
	l := New(32, 4, 9)
	fill(t, l, 0, 32, 4, "a", "b", "c", "d", "e")
	all := l.held
	ack(t, l, 3, 3)
	for i, b := range all[:3] {
		if b != nil {
			t.Errorf("message %d is still there: %q", i, b)
		}
	}
	wantOut(t, l, 1, 3, 32, "d")
}
