package tally

import (
	"math"
	"math/big"
	"math/rand"
	"sync"
	"testing"

	"signalman/api"
)

const top = 1<<32 - 1

var (
	minusZero   = math.Copysign(0, -1)
	notANumber  = math.NaN()
	infinite    = math.Inf(1)
	minInfinite = math.Inf(-1)
)

// counts holds ordinary numbers, the limits of a part, and what is beyond them.
var counts = []int{0, 1, 2, 3, 16, 999, 1000, 1001, 65535, math.MaxInt32, 1 << 31, top / 2, top/2 + 1, top - 2, top - 1, top, top + 1, top + 2, 2 * top, 1 << 33, 1<<53 + 1, math.MaxInt - 1, math.MaxInt, -1, -2, -1000, math.MinInt32, -top, -top - 1, math.MinInt + 1, math.MinInt}

func validParts() []float64 {
	return []float64{0, minusZero, 1, 2, 3, 16, 1000, 65536, 1 << 31, 1<<31 - 1, top - 2, top - 1, top}
}

func invalidParts() []float64 {
	return []float64{
		0.5, 1.5, 1e-9, math.SmallestNonzeroFloat64, math.Nextafter(1, 0), math.Nextafter(1, 2), 1000.25, top - 0.5, math.Nextafter(top, 0),
		-1, -2, -0.5, -math.SmallestNonzeroFloat64, -top, -top - 1, -math.MaxFloat64,
		math.Nextafter(top, infinite), top + 0.5, top + 1, top + 2, 2 * top, 1 << 33, 1 << 53, 1 << 62, 1 << 63, 1 << 64, 1e300, math.MaxFloat64,
		infinite, minInfinite, notANumber, math.Copysign(notANumber, -1),
	}
}

func allParts() []float64 {
	return append(validParts(), invalidParts()...)
}

// wantPart finds the integer that x is, by a number that cannot overflow.
func wantPart(x float64) (int, bool) {
	if math.IsNaN(x) || math.IsInf(x, 0) {
		return 0, false
	}
	n, exact := big.NewFloat(x).Int(nil)
	if exact != big.Exact || n.Sign() < 0 || n.Cmp(big.NewInt(top)) > 0 {
		return 0, false
	}
	return int(n.Int64()), true
}

func wantLimit(n int) int {
	switch {
	case n < 0:
		return 0
	case n > top:
		return top
	}
	return n
}

// parts is what Parts returns.
type parts struct {
	good, bad int
	ok        bool
}

func partsOf(t complex128) parts {
	good, bad, ok := Parts(t)
	return parts{good, bad, ok}
}

func wantParts(t complex128) parts {
	good, ok := wantPart(real(t))
	bad, too := wantPart(imag(t))
	if !ok || !too {
		return parts{}
	}
	return parts{good, bad, true}
}

func wantAdd(a, b complex128) complex128 {
	x, y := wantParts(a), wantParts(b)
	return complex(float64(wantLimit(x.good+y.good)), float64(wantLimit(x.bad+y.bad)))
}

// numbers holds every pair of parts.
func numbers() []complex128 {
	var all []complex128
	for _, good := range allParts() {
		for _, bad := range allParts() {
			all = append(all, complex(good, bad))
		}
	}
	return all
}

func TestMaxCount(t *testing.T) {
	if api.MaxCount != top {
		t.Errorf("MaxCount is %d, the tests suppose %d", api.MaxCount, top)
	}
}

func TestP601OfKnownParts(t *testing.T) {
	for _, c := range []struct {
		good, bad int
		want      complex128
	}{
		{0, 0, 0},
		{3, 4, 3 + 4i},
		{4, 3, 4 + 3i},
		{1, 0, 1},
		{0, 1, 1i},
		{-1, 5, 5i},
		{5, -1, 5},
		{-1, -1, 0},
		{top - 1, top, 4294967294 + 4294967295i},
		{top + 1, 2, 4294967295 + 2i},
		{2, top + 1, 2 + 4294967295i},
		{math.MaxInt, math.MinInt, 4294967295},
		{math.MinInt, math.MaxInt, 4294967295i},
	} {
		if got := Of(c.good, c.bad); got != c.want {
			t.Errorf("Of(%d, %d) = %v, want %v", c.good, c.bad, got, c.want)
		}
	}
}

func TestP601OfAllCounts(t *testing.T) {
	for _, good := range counts {
		for _, bad := range counts {
			got := Of(good, bad)
			if want := complex(float64(wantLimit(good)), float64(wantLimit(bad))); got != want {
				t.Errorf("Of(%d, %d) = %v, want %v", good, bad, got, want)
			}
			if back := partsOf(got); back != (parts{wantLimit(good), wantLimit(bad), true}) {
				t.Errorf("Parts(Of(%d, %d)) = %v", good, bad, back)
			}
		}
	}
}

func TestP601PartsOfKnownNumbers(t *testing.T) {
	for _, c := range []struct {
		t    complex128
		want parts
	}{
		{0, parts{0, 0, true}},
		{3 + 4i, parts{3, 4, true}},
		{7, parts{7, 0, true}},
		{7i, parts{0, 7, true}},
		{complex(top, top), parts{top, top, true}},
		{complex(minusZero, 5), parts{0, 5, true}},
		{complex(5, minusZero), parts{5, 0, true}},
		{complex(minusZero, minusZero), parts{0, 0, true}},
		{0.5 + 2i, parts{}},
		{2 + 0.5i, parts{}},
		{-1 + 2i, parts{}},
		{2 - 1i, parts{}},
		{complex(top+1, 2), parts{}},
		{complex(2, top+1), parts{}},
		{complex(infinite, 2), parts{}},
		{complex(2, infinite), parts{}},
		{complex(minInfinite, 2), parts{}},
		{complex(2, minInfinite), parts{}},
		{complex(notANumber, 2), parts{}},
		{complex(2, notANumber), parts{}},
		{complex(notANumber, infinite), parts{}},
		{-1 + 0.5i, parts{}},
	} {
		if got := partsOf(c.t); got != c.want {
			t.Errorf("Parts(%v) = %v, want %v", c.t, got, c.want)
		}
	}
}

func TestP601PartsOfAllNumbers(t *testing.T) {
	for _, x := range numbers() {
		if got, want := partsOf(x), wantParts(x); got != want {
			t.Errorf("Parts(%v) = %v, want %v", x, got, want)
		}
	}
}

// One invalid part makes the number invalid, whatever the other one is.
func TestP601OneInvalidPart(t *testing.T) {
	for _, valid := range validParts() {
		for _, invalid := range invalidParts() {
			for _, x := range []complex128{complex(valid, invalid), complex(invalid, valid)} {
				if got := partsOf(x); got != (parts{}) {
					t.Errorf("Parts(%v) = %v", x, got)
				}
				if a, b := Add(x, 3+4i), Add(3+4i, x); a != 3+4i || b != 3+4i {
					t.Errorf("Add of %v: %v, %v", x, a, b)
				}
			}
		}
	}
}

func TestP601AddOfKnownNumbers(t *testing.T) {
	for _, c := range []struct{ a, b, want complex128 }{
		{0, 0, 0},
		{1 + 2i, 3 + 4i, 4 + 6i},
		{1, 1i, 1 + 1i},
		{complex(minusZero, 1), complex(minusZero, minusZero), 1i},
		// Each part is limited by itself.
		{complex(top-1, 5), 1 + 1i, complex(top, 6)},
		{complex(top, 5), 1 + 1i, complex(top, 6)},
		{complex(5, top-1), 1 + 1i, complex(6, top)},
		{complex(5, top), 1 + 1i, complex(6, top)},
		{complex(top, top), complex(top, top), complex(top, top)},
		{complex(1<<31, 1<<31-1), complex(1<<31, 1<<31), complex(top, top)},
		// An invalid argument does not count, not even its valid part.
		{complex(notANumber, 7), 3 + 4i, 3 + 4i},
		{3 + 4i, complex(7, infinite), 3 + 4i},
		{-1 + 7i, 3 + 4i, 3 + 4i},
		{3 + 4i, 7 + 0.5i, 3 + 4i},
		{complex(top+1, 7), 3 + 4i, 3 + 4i},
		// Two that would be valid together.
		{0.5, 0.5, 0},
		{-1, 2, 2},
		{complex(infinite, 0), complex(minInfinite, 0), 0},
		{complex(notANumber, 7), complex(7, notANumber), 0},
	} {
		if got := Add(c.a, c.b); got != c.want {
			t.Errorf("Add(%v, %v) = %v, want %v", c.a, c.b, got, c.want)
		}
		if got := Add(c.b, c.a); got != c.want {
			t.Errorf("Add(%v, %v) = %v, want %v", c.b, c.a, got, c.want)
		}
	}
}

func TestP601AddOfAllNumbers(t *testing.T) {
	all := numbers()
	for i, a := range all {
		// Every third number, from another one on each time, so that all kinds meet.
		for j := i % 3; j < len(all); j += 3 {
			b := all[j]
			got, want := Add(a, b), wantAdd(a, b)
			if got != want {
				t.Fatalf("Add(%v, %v) = %v, want %v", a, b, got, want)
			}
			if !partsOf(got).ok {
				t.Fatalf("Add(%v, %v) = %v, which is no tally", a, b, got)
			}
		}
	}
}

func TestP601RandomTallies(t *testing.T) {
	random := rand.New(rand.NewSource(601))
	for range 100000 {
		a, b, c, d := random.Intn(top+1), random.Intn(top+1), random.Intn(top+1), random.Intn(top+1)
		if got := partsOf(Of(a, b)); got != (parts{a, b, true}) {
			t.Fatalf("Parts(Of(%d, %d)) = %v", a, b, got)
		}
		if got, want := partsOf(Add(Of(a, b), Of(c, d))), (parts{min(a+c, top), min(b+d, top), true}); got != want {
			t.Fatalf("Add of %d, %d and %d, %d: %v, want %v", a, b, c, d, got, want)
		}
	}
}

// history is all that a Window was told since the last Clear.
type history []bool

// want counts the last n events.
func (h history) want(n int) complex128 {
	good := 0
	last := h[max(len(h)-n, 0):]
	for _, ok := range last {
		if ok {
			good++
		}
	}
	return complex(float64(good), float64(len(last)-good))
}

// sizes holds for each n how many events are kept.
var sizes = []struct{ n, kept int }{
	{math.MinInt, 1}, {-1000, 1}, {-1, 1}, {0, 1}, {1, 1}, {2, 2}, {3, 3}, {16, 16}, {999, 999}, {1000, 1000}, {1001, 1000}, {1002, 1000}, {1 << 32, 1000}, {math.MaxInt, 1000},
}

func TestP601ANewWindowHasNoEvents(t *testing.T) {
	for _, c := range sizes {
		if got := New(c.n).Sum(); got != 0 {
			t.Errorf("New(%d): %v", c.n, got)
		}
	}
}

// After exactly n good events, each bad one takes the place of a good one.
func TestP601TheNumberOfEventsIsLimited(t *testing.T) {
	for _, c := range sizes {
		w := New(c.n)
		for i := range c.kept {
			w.Note(true)
			if got := w.Sum(); got != complex(float64(i+1), 0) {
				t.Fatalf("New(%d), %d good events: %v", c.n, i+1, got)
			}
		}
		for i := range c.kept {
			w.Note(false)
			if got := w.Sum(); got != complex(float64(c.kept-i-1), float64(i+1)) {
				t.Fatalf("New(%d), full, then %d bad events: %v", c.n, i+1, got)
			}
		}
		w.Note(false)
		if got := w.Sum(); got != complex(0, float64(c.kept)) {
			t.Errorf("New(%d), only bad events: %v", c.n, got)
		}
	}
}

func TestP601RandomEvents(t *testing.T) {
	random := rand.New(rand.NewSource(6))
	for _, c := range sizes {
		w := New(c.n)
		var h history
		for step := range 4000 {
			ok := random.Intn(3) > 0
			w.Note(ok)
			h = append(h, ok)
			if step%1777 == 1776 {
				w.Clear()
				h = nil
			}
			if got, want := w.Sum(), h.want(c.kept); got != want {
				t.Fatalf("New(%d), step %d: %v, want %v", c.n, step, got, want)
			}
		}
	}
}

// All sequences of ten good events, bad events and Clears.
func TestP601AllShortSequences(t *testing.T) {
	const length = 10
	for n := 1; n <= 5; n++ {
		for code := range 59049 {
			w := New(n)
			var h history
			for step, rest := 0, code; step < length; step, rest = step+1, rest/3 {
				if rest%3 == 2 {
					w.Clear()
					h = nil
				} else {
					w.Note(rest%3 == 1)
					h = append(h, rest%3 == 1)
				}
				if got, want := w.Sum(), h.want(n); got != want {
					t.Fatalf("New(%d), sequence %d, step %d: %v, want %v", n, code, step, got, want)
				}
			}
		}
	}
}

// What was removed does not come back, wherever the Window stood, and the Window keeps as many events as before.
func TestP601Clear(t *testing.T) {
	for _, c := range sizes {
		for _, before := range []int{0, 1, c.kept - 1, c.kept, c.kept + 1, 2*c.kept + 1} {
			w := New(c.n)
			for range before {
				w.Note(true)
			}
			for range 2 {
				w.Clear()
				if got := w.Sum(); got != 0 {
					t.Errorf("New(%d), %d events, Clear: %v", c.n, before, got)
				}
			}
			for i := range c.kept + 2 {
				w.Note(false)
				if got, want := w.Sum(), complex(0, float64(min(i+1, c.kept))); got != want {
					t.Fatalf("New(%d), %d events, Clear, %d events: %v, want %v", c.n, before, i+1, got, want)
				}
			}
		}
	}
}

func TestP601SumRemovesNothing(t *testing.T) {
	w := New(3)
	for _, ok := range []bool{true, false, true, true, false} {
		w.Note(ok)
		first := w.Sum()
		for range 5 {
			if got := w.Sum(); got != first {
				t.Fatalf("Sum again: %v, but %v at first", got, first)
			}
		}
	}
	if got := w.Sum(); got != 2+1i {
		t.Errorf("the last three events: %v", got)
	}
}

// A Window has always a tally, which can be added to others.
func TestP601SumIsATally(t *testing.T) {
	w := New(2)
	total := Of(0, 0)
	for step := range 100 {
		w.Note(step%2 == 0)
		if got := partsOf(w.Sum()); !got.ok || got.good+got.bad != min(step+1, 2) {
			t.Fatalf("step %d: %v", step, got)
		}
		total = Add(total, w.Sum())
	}
	if total != 100+99i {
		t.Errorf("all sums: %v", total)
	}
}

// A Window that New did not make has no size, but its methods do not panic.
func TestRule1AZeroWindow(t *testing.T) {
	var w Window
	if got := w.Sum(); got != 0 {
		t.Errorf("a zero Window: %v", got)
	}
	for step := range 3000 {
		w.Note(step%3 == 0)
		if got := partsOf(w.Sum()); !got.ok {
			t.Fatalf("a zero Window at step %d: %v", step, w.Sum())
		}
	}
	w.Clear()
	if got := w.Sum(); got != 0 {
		t.Errorf("a zero Window after Clear: %v", got)
	}
}

// Two Windows of the same and of different sizes, used by turns, tell what each would tell alone.
func TestP602TwoWindowsByTurns(t *testing.T) {
	random := rand.New(rand.NewSource(602))
	for _, one := range sizes {
		for _, two := range sizes {
			windows := [2]*Window{New(one.n), New(two.n)}
			kept := [2]int{one.kept, two.kept}
			var told [2]history
			for range 300 {
				i := random.Intn(2)
				if random.Intn(50) == 0 {
					windows[i].Clear()
					told[i] = nil
				} else {
					ok := random.Intn(2) == 0
					windows[i].Note(ok)
					told[i] = append(told[i], ok)
				}
				for k, w := range windows {
					if got, want := w.Sum(), told[k].want(kept[k]); got != want {
						t.Fatalf("New(%d) and New(%d), Window %d: %v, want %v", one.n, two.n, k, got, want)
					}
				}
			}
		}
	}
}

func TestP602NewReturnsWindowsOfTheirOwn(t *testing.T) {
	a, b := New(4), New(4)
	if a == nil || b == nil || a == b {
		t.Fatalf("New: %p, %p", a, b)
	}
	for range 4 {
		a.Note(true)
	}
	if got := b.Sum(); got != 0 {
		t.Errorf("a Window without events: %v", got)
	}
	if got := New(4).Sum(); got != 0 {
		t.Errorf("a later Window: %v", got)
	}
	b.Note(false)
	b.Clear()
	if got := a.Sum(); got != 4 {
		t.Errorf("after Clear of another Window: %v", got)
	}
}

// A copy goes on from the same events, and neither sees what the other one is told.
func TestP602ACopyIsIndependent(t *testing.T) {
	for _, c := range sizes {
		for _, before := range []int{0, 1, c.kept, c.kept + 1} {
			one := New(c.n)
			var h history
			for i := range before {
				one.Note(i%2 == 0)
				h = append(h, i%2 == 0)
			}
			two := *one
			first, second := append(history{}, h...), append(history{}, h...)
			for range c.kept + 1 {
				one.Note(true)
				two.Note(false)
				first, second = append(first, true), append(second, false)
				if got, want := one.Sum(), first.want(c.kept); got != want {
					t.Fatalf("New(%d), %d events: the Window: %v, want %v", c.n, before, got, want)
				}
				if got, want := two.Sum(), second.want(c.kept); got != want {
					t.Fatalf("New(%d), %d events: its copy: %v, want %v", c.n, before, got, want)
				}
			}
		}
	}
}

func TestP102ResultsDoNotDependOnEarlierCalls(t *testing.T) {
	all := numbers()
	for round := range 3 {
		for i := range all {
			x, y := all[i], all[len(all)-1-i]
			if round == 1 {
				x, y = y, x
			}
			if got, want := partsOf(x), wantParts(x); got != want {
				t.Errorf("round %d: Parts(%v) = %v, want %v", round, x, got, want)
			}
			if got, want := Add(x, y), wantAdd(x, y); got != want {
				t.Errorf("round %d: Add(%v, %v) = %v, want %v", round, x, y, got, want)
			}
		}
	}
}

func TestP102ResultsDoNotDependOnCallsAtTheSameTime(t *testing.T) {
	all := numbers()
	var joined sync.WaitGroup
	for worker := range 4 {
		joined.Go(func() {
			w := New(worker * 5)
			var h history
			for step := range all {
				x, y := all[step*(worker+1)%len(all)], all[step]
				if got, want := Add(x, y), wantAdd(x, y); got != want {
					t.Errorf("worker %d: Add(%v, %v) = %v, want %v", worker, x, y, got, want)
				}
				ok := step%(worker+2) == 0
				w.Note(ok)
				h = append(h, ok)
				if got, want := w.Sum(), h.want(max(worker*5, 1)); got != want {
					t.Errorf("worker %d, step %d: %v, want %v", worker, step, got, want)
				}
			}
		})
	}
	joined.Wait()
}
