package reorder

import (
	"bytes"
	"math"
	"math/rand"
	"slices"
	"strconv"
	"sync"
	"testing"
)

// pair holds what New is given and what that is limited to.
type pair struct{ given, limited int }

var moduli = []pair{
	{8, 8}, {9, 9}, {15, 15}, {16, 16}, {17, 17}, {127, 127}, {128, 128}, {32767, 32767}, {32768, 32768},
	{7, 8}, {6, 8}, {1, 8}, {0, 8}, {-1, 8}, {-8, 8}, {-128, 8}, {-32768, 8}, {math.MinInt32, 8}, {math.MinInt + 1, 8}, {math.MinInt, 8},
	{32769, 32768}, {65536, 32768}, {65536 + 128, 32768}, {math.MaxInt32, 32768}, {1 << 32, 32768}, {1<<32 + 128, 32768}, {math.MaxInt - 1, 32768}, {math.MaxInt, 32768},
}

// windows returns windows for a modulus whose greatest one is most.
func windows(most int) []pair {
	all := []pair{
		{1, 1}, {0, 1}, {-1, 1}, {-2, 1}, {-most, 1}, {math.MinInt32, 1}, {-1 << 32, 1}, {math.MinInt + 1, 1}, {math.MinInt, 1},
		{most, most}, {most + 1, most}, {most + 2, most}, {8 * most, most}, {math.MaxInt32, most}, {1 << 32, most}, {1<<32 + 1, most}, {math.MaxInt - 1, most}, {math.MaxInt, most},
	}
	if most > 1 {
		all = append(all, pair{2, 2}, pair{most - 1, most - 1}, pair{(most + 1) / 2, (most + 1) / 2})
	}
	return all
}

// residue returns the number from 0 to m - 1 to which n is congruent modulo m.
func residue(n, m int) int {
	return (n%m + m) % m
}

// congruent returns numbers outside of 0 to m - 1 that are congruent modulo m to n, which is one of these.
func congruent(n, m int) []int {
	least := math.MinInt + residue(n-residue(math.MinInt, m), m)
	most := math.MaxInt - residue(residue(math.MaxInt, m)-n, m)
	return []int{n - m, n + m, n - 2*m, n + 2*m, n - 1000*m, n + 1000*m, n + m<<32, n - m<<32, least, least + m, most, most - m}
}

func put(t *testing.T, o *Order, n int, b string, want int) {
	t.Helper()
	if got := o.Put(n, []byte(b)); got != want {
		t.Errorf("Put(%d, %q) = %d, want %d", n, b, got, want)
	}
}

// want checks the expected number, and whether a message is stored that is not ready.
func want(t *testing.T, o *Order, next int, gap bool) {
	t.Helper()
	if got := o.Next(); got != next {
		t.Errorf("Next() = %d, want %d", got, next)
	}
	if got := o.Gap(); got != gap {
		t.Errorf("Gap() = %t, want %t", got, gap)
	}
}

func take(t *testing.T, o *Order, messages ...string) {
	t.Helper()
	for _, want := range messages {
		if b, ok := o.Take(); string(b) != want || !ok {
			t.Errorf("Take() = %q, %t, want %q, true", b, ok, want)
		}
	}
}

func noTake(t *testing.T, o *Order) {
	t.Helper()
	for range 2 {
		if b, ok := o.Take(); b != nil || ok {
			t.Errorf("Take() = %q, %t, want nil, false", b, ok)
		}
	}
}

// message returns the n-th of many messages that are all different.
func message(n int) string {
	return "message " + strconv.Itoa(n)
}

// messages returns those from the first one to the one before end.
func messages(first, end int) []string {
	var all []string
	for n := first; n < end; n++ {
		all = append(all, message(n))
	}
	return all
}

// at returns an order that expects n: the messages before it became ready and were taken.
func at(t *testing.T, n, m, window int) *Order {
	t.Helper()
	o := New(m, window)
	for i := range n {
		put(t, o, i, "earlier", 1)
		take(t, o, "earlier")
	}
	want(t, o, n, false)
	return o
}

func TestP1401TheExample(t *testing.T) {
	for _, m := range []int{16, 17, 128, 32768, math.MaxInt} {
		for _, window := range []int{2, 3, math.MaxInt} {
			o := New(m, window)
			put(t, o, 1, "a", 0)
			want(t, o, 0, true)
		}
	}
	// Here the number 1 is a whole window ahead.
	for _, x := range []struct{ m, window int }{{8, 1}, {15, 2}, {128, 1}, {128, 0}, {32768, math.MinInt}, {math.MinInt, math.MaxInt}} {
		o := New(x.m, x.window)
		put(t, o, 1, "a", -1)
		want(t, o, 0, false)
	}
}

func TestP1401ANewOrder(t *testing.T) {
	for _, m := range moduli {
		for _, w := range windows(m.limited / 8) {
			o := New(m.given, w.given)
			for range 2 {
				want(t, o, 0, false)
				noTake(t, o)
				o.Clear()
			}
		}
	}
}

func TestP1401TheModulusIsLimited(t *testing.T) {
	for _, m := range moduli {
		for _, window := range []int{1, math.MaxInt, math.MinInt} {
			o := New(m.given, window)
			// Twice around, and some more.
			for i := range 2*m.limited + 3 {
				if got, want := o.Next(), i%m.limited; got != want {
					t.Fatalf("New(%d, %d): Next() = %d, want %d", m.given, window, got, want)
				}
				if got := o.Put(i%m.limited, nil); got != 1 {
					t.Fatalf("New(%d, %d): Put(%d) = %d", m.given, window, i%m.limited, got)
				}
				if _, ok := o.Take(); !ok {
					t.Fatalf("New(%d, %d): no message %d", m.given, window, i)
				}
			}
		}
	}
}

// TestP1401TheWindowIsLimited puts the numbers just behind a window, and all those in it from its end on.
func TestP1401TheWindowIsLimited(t *testing.T) {
	for _, m := range moduli {
		for _, w := range windows(m.limited / 8) {
			o := New(m.given, w.given)
			for _, n := range []int{w.limited, w.limited + 1, m.limited / 2, m.limited - 1} {
				put(t, o, n, "x", -1)
			}
			want(t, o, 0, false)
			for n := w.limited - 1; n > 0; n-- {
				if got := o.Put(n, nil); got != 0 {
					t.Fatalf("New(%d, %d): Put(%d) = %d", m.given, w.given, n, got)
				}
			}
			want(t, o, 0, w.limited > 1)
			noTake(t, o)
			put(t, o, 0, "", w.limited)
			want(t, o, w.limited, false)
			// The window has moved to its own end.
			put(t, o, 2*w.limited, "x", -1)
			put(t, o, 2*w.limited-1, "", btoi(w.limited == 1))
			want(t, o, w.limited+btoi(w.limited == 1), w.limited > 1)
		}
	}
}

// btoi returns 1 if b holds, and 0 otherwise.
func btoi(b bool) int {
	if b {
		return 1
	}
	return 0
}

func TestP1401WindowsOfKnownModuli(t *testing.T) {
	for _, x := range []struct{ m, most int }{
		{8, 1}, {9, 1}, {15, 1}, {16, 2}, {17, 2}, {23, 2}, {24, 3}, {63, 7}, {64, 8}, {71, 8}, {127, 15}, {128, 16}, {129, 16}, {32767, 4095}, {32768, 4096},
		{7, 1}, {0, 1}, {math.MinInt, 1}, {32769, 4096}, {math.MaxInt, 4096},
	} {
		for _, window := range []int{x.most, x.most + 1, math.MaxInt} {
			o := New(x.m, window)
			put(t, o, x.most, "x", -1)
			want(t, o, 0, false)
			if x.most > 1 {
				put(t, o, x.most-1, "a", 0)
				want(t, o, 0, true)
			}
		}
		for _, window := range []int{1, 0, -1, math.MinInt} {
			o := New(x.m, window)
			put(t, o, 1, "x", -1)
			put(t, o, 0, "a", 1)
			want(t, o, 1, false)
		}
	}
}

func TestP1401PutTheExpectedNumber(t *testing.T) {
	o := New(128, 16)
	put(t, o, 0, "a", 1)
	want(t, o, 1, false)
	take(t, o, "a")
	noTake(t, o)
	want(t, o, 1, false)
	put(t, o, 1, "b", 1)
	put(t, o, 2, "c", 1)
	want(t, o, 3, false)
	take(t, o, "b", "c")
	noTake(t, o)
}

// TestP1401PutClosesTheGap puts the expected number when others behind it are stored.
func TestP1401PutClosesTheGap(t *testing.T) {
	for _, first := range []int{0, 1, 50, 120, 124, 125, 126, 127} {
		o := at(t, first, 128, 8)
		number := func(i int) int { return (first + i) % 128 }
		for _, i := range []int{3, 1, 6, 2, 5} {
			put(t, o, number(i), message(i), 0)
			want(t, o, first, true)
			noTake(t, o)
		}
		put(t, o, first, message(0), 4)
		// 5 and 6 are still behind a gap.
		want(t, o, number(4), true)
		take(t, o, messages(0, 2)...)
		put(t, o, number(7), message(7), 0)
		put(t, o, number(4), message(4), 4)
		want(t, o, number(8), false)
		take(t, o, messages(2, 8)...)
		noTake(t, o)
		want(t, o, number(8), false)
	}
}

// orders returns all orders of the numbers from 0 to n - 1.
func orders(n int) [][]int {
	if n == 0 {
		return [][]int{nil}
	}
	var all [][]int
	for _, shorter := range orders(n - 1) {
		for i := range n {
			all = append(all, slices.Insert(slices.Clone(shorter), i, n-1))
		}
	}
	return all
}

// TestP1401AllOrders puts up to five messages in all orders, where the numbers wrap around and where they do not.
func TestP1401AllOrders(t *testing.T) {
	for count := range 6 {
		for _, order := range orders(count) {
			for _, first := range []int{0, 3, 37, 38, 39} {
				o := at(t, first, 40, 5)
				var there [6]bool
				ready := 0
				for _, i := range order {
					there[i] = true
					before := ready
					for there[ready] {
						ready++
					}
					put(t, o, (first+i)%40, message(i), ready-before)
					want(t, o, (first+ready)%40, slices.Contains(there[ready:], true))
				}
				take(t, o, messages(0, count)...)
				noTake(t, o)
			}
		}
	}
}

func TestP1401PutOnceMore(t *testing.T) {
	for _, first := range []int{0, 5, 29, 30, 31} {
		o := at(t, first, 32, 4)
		number := func(i int) int { return (first + i) % 32 }
		for _, i := range []int{2, 3, 1} {
			put(t, o, number(i), message(i), 0)
			for _, b := range []string{"other", "", message(i)} {
				put(t, o, number(i), b, 0)
				put(t, o, number(i)+32, b, 0)
				put(t, o, number(i)-64, b, 0)
				want(t, o, first, true)
				noTake(t, o)
			}
		}
		put(t, o, first, message(0), 4)
		for i := range 4 {
			put(t, o, number(i), "other", -1)
		}
		want(t, o, number(4), false)
		take(t, o, messages(0, 4)...)
		noTake(t, o)
	}
}

// TestP1401PutAtTheWindow puts each number modulo m on orders that expect each number.
func TestP1401PutAtTheWindow(t *testing.T) {
	for _, x := range []struct{ m, window int }{{8, 1}, {15, 1}, {16, 2}, {17, 2}, {33, 4}, {48, 6}} {
		for first := range x.m {
			for ahead := range x.m {
				o := at(t, first, x.m, x.window)
				n := (first + ahead) % x.m
				switch {
				case ahead == 0:
					put(t, o, n, "a", 1)
					want(t, o, (first+1)%x.m, false)
					take(t, o, "a")
				case ahead < x.window:
					put(t, o, n, "a", 0)
					want(t, o, first, true)
				default:
					put(t, o, n, "a", -1)
					want(t, o, first, false)
				}
				noTake(t, o)
			}
		}
	}
}

// TestP1401AnIgnoredMessageIsNotStored lets the window move over numbers that were ignored.
func TestP1401AnIgnoredMessageIsNotStored(t *testing.T) {
	for _, first := range []int{0, 17, 28, 29, 30, 31} {
		o := at(t, first, 32, 4)
		number := func(i int) int { return (first + i) % 32 }
		put(t, o, number(4), "x", -1)
		put(t, o, number(5), "x", -1)
		want(t, o, first, false)
		put(t, o, number(3), message(3), 0)
		want(t, o, first, true)
		put(t, o, number(4), "x", -1)
		put(t, o, first, message(0), 1)
		want(t, o, number(1), true)
		// Now the number is in the window, and just this one more.
		put(t, o, number(5), "x", -1)
		put(t, o, number(4), message(4), 0)
		put(t, o, number(2), message(2), 0)
		put(t, o, number(1), message(1), 4)
		want(t, o, number(5), false)
		put(t, o, number(5), message(5), 1)
		take(t, o, messages(0, 6)...)
		noTake(t, o)
	}
}

// TestP1401PutBehind puts numbers before the expected one, of messages that were taken and of those that were not.
func TestP1401PutBehind(t *testing.T) {
	o := New(32, 4)
	put(t, o, 31, "x", -1)
	for n := range 6 {
		put(t, o, n, message(n), 1)
	}
	take(t, o, messages(0, 3)...)
	for _, n := range []int{5, 4, 3, 2, 1, 0, 31, 30, 22} {
		put(t, o, n, "x", -1)
		want(t, o, 6, false)
	}
	put(t, o, 8, message(8), 0)
	for n := range 6 {
		put(t, o, n, "x", -1)
		want(t, o, 6, true)
	}
	put(t, o, 7, message(7), 0)
	put(t, o, 6, message(6), 3)
	take(t, o, messages(3, 9)...)
	noTake(t, o)
	for n := range 9 {
		put(t, o, n, "x", -1)
	}
	want(t, o, 9, false)
	noTake(t, o)
}

// TestP1401CongruentNumbers puts numbers that are negative, or m or more.
func TestP1401CongruentNumbers(t *testing.T) {
	for _, m := range []int{24, 31, 128, 1000} {
		for _, first := range []int{0, 1, 11, m - 3, m - 2, m - 1} {
			number := func(i int) int { return (first + m + i) % m }
			for k := range congruent(0, m) {
				like := func(i int) int { return congruent(number(i), m)[k] }
				o := at(t, first, m, 3)
				put(t, o, like(3), "x", -1)
				put(t, o, like(-1), "x", -1)
				put(t, o, like(m/2), "x", -1)
				want(t, o, first, false)
				put(t, o, like(2), message(2), 0)
				want(t, o, first, true)
				put(t, o, number(2), "x", 0)
				put(t, o, number(1), message(1), 0)
				put(t, o, like(1), "x", 0)
				put(t, o, like(0), message(0), 3)
				want(t, o, number(3), false)
				put(t, o, like(0), "x", -1)
				put(t, o, like(2), "x", -1)
				put(t, o, like(3), message(3), 1)
				take(t, o, messages(0, 4)...)
				noTake(t, o)
			}
		}
	}
}

func TestP1401CongruentNumbersThatAreKnown(t *testing.T) {
	o := New(16, 2)
	// -2^63 is congruent to 0, and 2^63 - 1 to 15.
	put(t, o, math.MaxInt, "x", -1)
	put(t, o, math.MinInt, "a", 1)
	put(t, o, -14, "c", 0)
	put(t, o, 17, "b", 2)
	want(t, o, 3, false)
	put(t, o, -13, "d", 1)
	put(t, o, 1<<40+4, "e", 1)
	take(t, o, "a", "b", "c", "d", "e")
	for n := 5; n < 15; n++ {
		put(t, o, n, "", 1)
	}
	put(t, o, 32, "q", 0)
	put(t, o, math.MaxInt, "p", 2)
	want(t, o, 1, false)
	take(t, o, slices.Concat(make([]string, 10), []string{"p", "q"})...)
	noTake(t, o)
}

func TestP1401MessagesWithoutOctets(t *testing.T) {
	o := New(40, 5)
	for i, b := range [][]byte{{}, nil, make([]byte, 0, 9)} {
		if got := o.Put(i+1, b); got != 0 {
			t.Errorf("Put of nothing with the number %d = %d", i+1, got)
		}
		// A message without octets is stored too.
		put(t, o, i+1, "x", 0)
		want(t, o, 0, true)
		noTake(t, o)
	}
	if got := o.Put(0, nil); got != 4 {
		t.Errorf("Put(0, nil) = %d", got)
	}
	want(t, o, 4, false)
	put(t, o, 5, "", 0)
	put(t, o, 4, "a", 2)
	take(t, o, "", "", "", "", "a", "")
	noTake(t, o)
	want(t, o, 6, false)
}

func TestP1401LongMessages(t *testing.T) {
	o := New(24, 3)
	long := bytes.Repeat([]byte{0, 1, 0x7E, 0xFF}, 1<<18)
	for _, x := range []struct{ n, want int }{{2, 0}, {1, 0}, {0, 3}} {
		if got := o.Put(x.n, long[x.n:]); got != x.want {
			t.Errorf("Put(%d) = %d, want %d", x.n, got, x.want)
		}
	}
	for n := range 3 {
		if b, ok := o.Take(); !bytes.Equal(b, long[n:]) || !ok {
			t.Errorf("Take() = %d octets, %t", len(b), ok)
		}
	}
	noTake(t, o)
}

// TestP1401StoredOnBothSides stores messages before and behind the place where the numbers wrap around.
func TestP1401StoredOnBothSides(t *testing.T) {
	for _, m := range []int{48, 55, 128, 1000, 32768} {
		for behind := 1; behind < 6; behind++ {
			first := m - behind
			o := at(t, first, m, 6)
			for i := 5; i > 0; i-- {
				put(t, o, (first+i)%m, message(i), 0)
				want(t, o, first, true)
			}
			put(t, o, (first+6)%m, "x", -1)
			noTake(t, o)
			put(t, o, first, message(0), 6)
			want(t, o, 6-behind, false)
			take(t, o, messages(0, 6)...)
			noTake(t, o)
			for n := range 6 {
				put(t, o, (first+n)%m, "x", -1)
			}
			put(t, o, (first+7)%m, message(7), 0)
			put(t, o, (first+6)%m, message(6), 2)
			want(t, o, 8-behind, false)
			take(t, o, messages(6, 8)...)
			noTake(t, o)
		}
	}
}

func TestP1401TheWidestWindow(t *testing.T) {
	for _, first := range []int{0, 1, 28671, 28672, 28673, 30000, 32767} {
		o := at(t, first, 32768, 4096)
		put(t, o, first+4096, "x", -1)
		for i := 4095; i > 0; i-- {
			put(t, o, (first+i)%32768, message(i), 0)
		}
		want(t, o, first, true)
		noTake(t, o)
		put(t, o, first, message(0), 4096)
		want(t, o, (first+4096)%32768, false)
		put(t, o, first+4095, "x", -1)
		take(t, o, messages(0, 4096)...)
		noTake(t, o)
	}
}

// TestP1401TheSameNumberAgain goes around the numbers many times: a message of an earlier round is forgotten.
func TestP1401TheSameNumberAgain(t *testing.T) {
	o := New(17, 2)
	for i := 0; i < 1000; i += 2 {
		put(t, o, (i+1)%17, message(i+1), 0)
		want(t, o, i%17, true)
		put(t, o, i%17, message(i), 2)
		want(t, o, (i+2)%17, false)
		take(t, o, messages(i, i+2)...)
		noTake(t, o)
	}
}

func TestP1401Take(t *testing.T) {
	o := New(40, 5)
	noTake(t, o)
	put(t, o, 2, "c", 0)
	// A message that is stored is not ready.
	noTake(t, o)
	want(t, o, 0, true)
	put(t, o, 0, "a", 1)
	take(t, o, "a")
	noTake(t, o)
	want(t, o, 1, true)
	put(t, o, 1, "b", 2)
	take(t, o, "b")
	want(t, o, 3, false)
	// One more becomes ready behind those that are not taken.
	put(t, o, 3, "d", 1)
	put(t, o, 5, "f", 0)
	take(t, o, "c", "d")
	noTake(t, o)
	want(t, o, 4, true)
	put(t, o, 4, "e", 2)
	take(t, o, "e", "f")
	noTake(t, o)
	want(t, o, 6, false)
}

// TestP1401ManyMessagesAreReady lets many more messages become ready than there are numbers before one is taken.
func TestP1401ManyMessagesAreReady(t *testing.T) {
	for _, m := range []int{8, 16, 128} {
		o := New(m, 2)
		for i := range 5000 {
			put(t, o, i%m, message(i), 1)
		}
		want(t, o, 5000%m, false)
		take(t, o, messages(0, 5000)...)
		noTake(t, o)
		want(t, o, 5000%m, false)
	}
}

func TestP1401Gap(t *testing.T) {
	o := New(40, 5)
	want(t, o, 0, false)
	put(t, o, 5, "x", -1)
	put(t, o, 39, "x", -1)
	want(t, o, 0, false)
	put(t, o, 3, "d", 0)
	want(t, o, 0, true)
	put(t, o, 0, "a", 1)
	want(t, o, 1, true)
	put(t, o, 1, "b", 1)
	want(t, o, 2, true)
	put(t, o, 2, "c", 2)
	want(t, o, 4, false)
	// Messages that are ready are no gap.
	take(t, o, "a", "b", "c", "d")
	want(t, o, 4, false)
	put(t, o, 5, "f", 0)
	want(t, o, 4, true)
	put(t, o, 4, "e", 2)
	want(t, o, 6, false)
}

// TestP1401Clear clears orders with up to three messages that are ready and up to three that are stored.
func TestP1401Clear(t *testing.T) {
	for _, first := range []int{0, 1, 20, 28, 29, 30, 31} {
		for ready := range 4 {
			for stored := range 4 {
				o := at(t, first, 32, 4)
				for i := range ready {
					put(t, o, (first+i)%32, message(i), 1)
				}
				for i := range stored {
					put(t, o, (first+ready+1+i)%32, "forgotten", 0)
				}
				for range 2 {
					o.Clear()
					want(t, o, 0, false)
				}
				put(t, o, 4, "x", -1)
				put(t, o, 31, "x", -1)
				// Those that were stored do not follow, and what is put now comes behind those that are ready.
				put(t, o, 0, message(ready), 1)
				want(t, o, 1, false)
				for i := 3; i > 1; i-- {
					put(t, o, i, message(ready+i), 0)
				}
				put(t, o, 1, message(ready+1), 3)
				want(t, o, 4, false)
				take(t, o, messages(0, ready+4)...)
				noTake(t, o)
			}
		}
	}
}

func TestP1401ClearedMessagesCanBePutAgain(t *testing.T) {
	o := New(32, 4)
	for n := range 3 {
		put(t, o, n+1, "before", 0)
	}
	o.Clear()
	want(t, o, 0, false)
	noTake(t, o)
	for n := range 3 {
		put(t, o, n+1, message(n+1), 0)
		want(t, o, 0, true)
	}
	put(t, o, 0, message(0), 4)
	take(t, o, message(0))
	o.Clear()
	want(t, o, 0, false)
	take(t, o, messages(1, 4)...)
	noTake(t, o)
	put(t, o, 0, "a", 1)
	take(t, o, "a")
	want(t, o, 1, false)
}

func TestP1401ClearKeepsTheLimits(t *testing.T) {
	for _, x := range []struct{ m, window, limited, most int }{
		{17, 9, 17, 2}, {math.MinInt, math.MaxInt, 8, 1}, {128, 5, 128, 5}, {64, -1, 64, 1}, {math.MaxInt, math.MaxInt, 32768, 4096},
	} {
		o := New(x.m, x.window)
		for range 3 {
			put(t, o, x.most, "x", -1)
			for i := range x.limited + 1 {
				put(t, o, i%x.limited, "", 1)
			}
			want(t, o, 1, false)
			put(t, o, x.most, "", btoi(x.most == 1))
			o.Clear()
		}
	}
}

// TestP1401AskingChangesNothing asks again and again between the calls that change something.
func TestP1401AskingChangesNothing(t *testing.T) {
	o := at(t, 38, 40, 5)
	put(t, o, 1, "d", 0)
	put(t, o, 38, "a", 1)
	for range 5 {
		want(t, o, 39, true)
	}
	take(t, o, "a")
	for range 5 {
		want(t, o, 39, true)
		noTake(t, o)
	}
	put(t, o, 0, "c", 0)
	put(t, o, 39, "b", 3)
	take(t, o, "b", "c", "d")
	noTake(t, o)
}

// model is an order in the plainest form: each message beside its number.
type model struct {
	m, window, expected int
	stored              []numbered
	ready               []string
}

type numbered struct {
	n int
	b string
}

func newModel(m, window int) *model {
	return &model{m: m, window: window}
}

func (x *model) put(n int, b string) int {
	n = residue(n, x.m)
	if residue(n-x.expected, x.m) >= x.window {
		return -1
	}
	if slices.ContainsFunc(x.stored, func(s numbered) bool { return s.n == n }) {
		return 0
	}
	x.stored = append(x.stored, numbered{n, b})
	count := 0
	for {
		i := slices.IndexFunc(x.stored, func(s numbered) bool { return s.n == x.expected })
		if i < 0 {
			return count
		}
		x.ready = append(x.ready, x.stored[i].b)
		x.stored = slices.Delete(x.stored, i, i+1)
		x.expected = (x.expected + 1) % x.m
		count++
	}
}

func (x *model) take() (string, bool) {
	if len(x.ready) == 0 {
		return "", false
	}
	b := x.ready[0]
	x.ready = x.ready[1:]
	return b, true
}

func (x *model) clear() {
	x.stored, x.expected = nil, 0
}

// compare holds all that can be asked of an order against its model.
func compare(t *testing.T, o *Order, x *model) {
	t.Helper()
	if got := o.Next(); got != x.expected {
		t.Fatalf("Next() = %d, want %d", got, x.expected)
	}
	if got := o.Gap(); got != (len(x.stored) > 0) {
		t.Fatalf("Gap() = %t, with %d stored", got, len(x.stored))
	}
}

// putBoth puts the same message on an order and its model.
func putBoth(t *testing.T, o *Order, x *model, n int, b string) {
	t.Helper()
	if got, want := o.Put(n, []byte(b)), x.put(n, b); got != want {
		t.Fatalf("Put(%d, %q) = %d, want %d", n, b, got, want)
	}
}

// takeBoth takes a message from an order and its model.
func takeBoth(t *testing.T, o *Order, x *model) {
	t.Helper()
	b, ok := o.Take()
	if wantB, want := x.take(); string(b) != wantB || ok != want || !ok && b != nil {
		t.Fatalf("Take() = %q, %t, want %q, %t", b, ok, wantB, want)
	}
}

// someNumber returns a number in the window, one nearby, one that is congruent to one of these, or any.
func someNumber(random *rand.Rand, x *model) int {
	n := residue(x.expected+random.Intn(x.window+4)-2, x.m)
	switch random.Intn(8) {
	case 0:
		return n + x.m*(random.Intn(5)-2)
	case 1:
		return random.Intn(x.m)
	case 2:
		return int(random.Uint64())
	}
	return n
}

// act lets the same call happen to an order and its model.
func act(t *testing.T, random *rand.Rand, o *Order, x *model) {
	t.Helper()
	switch random.Intn(8) {
	case 0, 1, 2, 3:
		b := make([]byte, random.Intn(4))
		random.Read(b)
		putBoth(t, o, x, someNumber(random, x), string(b))
	case 4, 5, 6:
		takeBoth(t, o, x)
	default:
		if random.Intn(20) == 0 {
			o.Clear()
			x.clear()
		}
	}
}

func TestP1401RandomCalls(t *testing.T) {
	random := rand.New(rand.NewSource(14))
	for _, x := range []struct{ m, window int }{
		{8, 1}, {15, 1}, {16, 2}, {17, 2}, {24, 3}, {33, 4}, {64, 8}, {65, 8}, {128, 16}, {128, 1}, {32768, 20}, {40, 5},
	} {
		for range 5 {
			o, same := New(x.m, x.window), newModel(x.m, x.window)
			for range 4000 {
				act(t, random, o, same)
				compare(t, o, same)
			}
		}
	}
}

// TestP1401AllRowsOfCalls lets all rows of six calls happen that are possible, at the beginning of the numbers and near their end.
func TestP1401AllRowsOfCalls(t *testing.T) {
	const kinds, length = 7, 6
	rows := 1
	for range length {
		rows *= kinds
	}
	for row := range rows {
		for _, first := range []int{0, 23} {
			o, x := New(24, 3), newModel(24, 3)
			for n := range first {
				putBoth(t, o, x, n, "")
				takeBoth(t, o, x)
			}
			rest := row
			for call := range length {
				step(t, o, x, rest%kinds, call)
				compare(t, o, x)
				rest /= kinds
			}
			for range len(x.ready) + 1 {
				takeBoth(t, o, x)
			}
		}
	}
}

// step lets a call of a kind happen to an order and its model.
func step(t *testing.T, o *Order, x *model, kind, call int) {
	t.Helper()
	switch kind {
	case 5:
		takeBoth(t, o, x)
	case 6:
		o.Clear()
		x.clear()
	default:
		// From the number before the expected one to the one behind the window.
		putBoth(t, o, x, (x.expected+x.m+kind-1)%x.m, message(call))
	}
}

func TestP1402Independent(t *testing.T) {
	random := rand.New(rand.NewSource(1402))
	var orders []*Order
	var models []*model
	for _, x := range []struct{ m, window int }{{16, 2}, {16, 2}, {16, 2}, {8, 1}, {128, 16}, {32768, 9}} {
		orders = append(orders, New(x.m, x.window))
		models = append(models, newModel(x.m, x.window))
	}
	for range 20000 {
		i := random.Intn(len(orders))
		act(t, random, orders[i], models[i])
		for k, o := range orders {
			compare(t, o, models[k])
		}
	}
	for i, o := range orders {
		for range len(models[i].ready) + 1 {
			takeBoth(t, o, models[i])
		}
	}
}

func TestP1402TwoOrdersByTurns(t *testing.T) {
	a, b := New(24, 3), New(24, 3)
	put(t, a, 1, "a1", 0)
	want(t, b, 0, false)
	put(t, b, 0, "b0", 1)
	want(t, a, 0, true)
	noTake(t, a)
	put(t, b, 2, "b2", 0)
	put(t, a, 0, "a0", 2)
	want(t, b, 1, true)
	take(t, a, "a0")
	take(t, b, "b0")
	noTake(t, b)
	a.Clear()
	want(t, b, 1, true)
	put(t, b, 1, "b1", 2)
	take(t, a, "a1")
	noTake(t, a)
	New(24, 3).Clear()
	want(t, b, 3, false)
	take(t, b, "b1", "b2")
	noTake(t, b)
	want(t, a, 0, false)
}

// TestP1402SameCallsSameAnswers is about answers that hang on anything but the calls on the same order (P102).
func TestP1402SameCallsSameAnswers(t *testing.T) {
	var first []int
	for round := range 4 {
		random := rand.New(rand.NewSource(5))
		o := New(64, 8)
		var told []int
		for range 3000 {
			b, _ := o.Take()
			told = append(told, o.Put(o.Next()+random.Intn(10)-1, []byte{byte(random.Intn(256))}), o.Next(), btoi(o.Gap()))
			for _, octet := range b {
				told = append(told, int(octet))
			}
		}
		if round == 0 {
			first = told
		} else if !slices.Equal(told, first) {
			t.Errorf("round %d tells other numbers than the first one", round)
		}
	}
}

func TestP1402Goroutines(t *testing.T) {
	var joined sync.WaitGroup
	for i := range 8 {
		joined.Go(func() {
			m := 16 + i
			o := New(m, 2)
			for n := 0; n < 5000; n += 2 {
				first, second := message(i*10000+n), message(i*10000+n+1)
				if got := o.Put(n+1, []byte(second)); got != 0 {
					t.Errorf("order %d: Put(%d) = %d", i, n+1, got)
					return
				}
				if got := o.Put(n, []byte(first)); got != 2 {
					t.Errorf("order %d: Put(%d) = %d", i, n, got)
					return
				}
				take(t, o, first, second)
			}
		})
	}
	joined.Wait()
}

// spoil changes all of a slice, also what lies behind its end.
func spoil(b []byte) {
	b = b[:cap(b)]
	for i := range b {
		b[i] ^= 0xFF
	}
}

func TestP102PutKeepsNoArgument(t *testing.T) {
	o := New(40, 5)
	memory := []byte("abcdef")
	for _, x := range []struct {
		n, want int
		part    []byte
	}{{0, 1, memory[:2]}, {3, 0, memory[1:6]}, {4, 0, memory[:0]}, {2, 0, memory[2:3]}, {5, 0, memory}} {
		if got := o.Put(x.n, x.part); got != x.want {
			t.Errorf("Put(%d, %q) = %d", x.n, x.part, got)
		}
	}
	if string(memory) != "abcdef" {
		t.Errorf("Put makes the bytes %q", memory)
	}
	spoil(memory)
	put(t, o, 1, "x", 5)
	// Of a message that was ready, and of those that were stored.
	take(t, o, "ab", "x", "c", "bcdef", "", "abcdef")
	noTake(t, o)
}

func TestP102PutDoesNotModifyItsArgument(t *testing.T) {
	for length := range 20 {
		memory := bytes.Repeat([]byte{0xA5}, 24)
		o := New(24, 3)
		for _, n := range []int{1, 1, 3, 0, 0, 23, 2} {
			o.Put(n, memory[:length])
			o.Take()
		}
		o.Clear()
		o.Put(0, memory[:length])
		if !bytes.Equal(memory, bytes.Repeat([]byte{0xA5}, 24)) {
			t.Errorf("Put of %d octets makes % X", length, memory)
		}
	}
}

func TestP102ResultsAreNewMemory(t *testing.T) {
	o := New(40, 5)
	memory := []byte("abc")
	for _, n := range []int{1, 2, 3, 0} {
		o.Put(n, memory)
	}
	for range 3 {
		b, ok := o.Take()
		if string(b) != "abc" || !ok {
			t.Errorf("Take() = %q, %t", b, ok)
		}
		// What is appended to a result does not reach the next message either.
		_ = append(b, "xyz"...)
		spoil(b)
		want(t, o, 4, false)
	}
	take(t, o, "abc")
	noTake(t, o)
	if string(memory) != "abc" {
		t.Errorf("a result shares memory with the argument: %q", memory)
	}
}

func TestP102ResultsAreNotChangedLater(t *testing.T) {
	o := New(16, 2)
	put(t, o, 1, "def", 0)
	put(t, o, 0, "abc", 2)
	first, _ := o.Take()
	second, _ := o.Take()
	for i := range 100 {
		put(t, o, i+2, "xyz", 1)
		take(t, o, "xyz")
	}
	o.Clear()
	put(t, o, 1, "uvw", 0)
	put(t, o, 0, "rst", 2)
	if string(first) != "abc" || string(second) != "def" {
		t.Errorf("the results became %q, %q", first, second)
	}
}

// TestTakenMessagesAreForgotten looks into the memory in front of the messages that are ready: it must not keep those that were taken.
func TestTakenMessagesAreForgotten(t *testing.T) {
	o := New(16, 2)
	for n := range 4 {
		put(t, o, n, "a", 1)
	}
	all := o.ready
	take(t, o, "a", "a", "a")
	for i, b := range all[:3] {
		if b != nil {
			t.Errorf("message %d is still there: %q", i, b)
		}
	}
	take(t, o, "a")
	noTake(t, o)
}
