package serial

import (
	"math"
	"math/big"
	"sync"
	"testing"
)

const top = 1 << 30

// moduli holds ordinary moduli, the limits, and what is beyond them.
var moduli = []int{1, 2, 3, 7, 8, 10, 128, 32768, 65536, top - 1, top, top + 1, math.MaxInt32, math.MaxInt - 1, math.MaxInt, 0, -1, -8, -top, math.MinInt + 1, math.MinInt}

var numbers = []int{0, 1, 2, 3, 6, 7, 8, 9, 15, 16, 127, 128, 129, 32767, 32768, top - 2, top - 1, top, top + 1, math.MaxInt32, math.MaxInt - 1, math.MaxInt, -1, -2, -7, -8, -9, -128, -top - 1, -top, -top + 1, math.MinInt32, math.MinInt + 1, math.MinInt}

func limited(m int) int {
	switch {
	case m < 1:
		return 1
	case m > top:
		return top
	}
	return m
}

// wrap finds the sequence number of n by numbers that cannot overflow.
func wrap(n *big.Int, m int) int {
	return int(new(big.Int).Mod(n, big.NewInt(int64(limited(m)))).Int64())
}

func wantNext(n, m int) int {
	return wrap(new(big.Int).Add(big.NewInt(int64(n)), big.NewInt(1)), m)
}

func wantDist(a, b, m int) int {
	return wrap(new(big.Int).Sub(big.NewInt(int64(b)), big.NewInt(int64(a))), m)
}

func TestP101NextOfOrdinaryNumbers(t *testing.T) {
	for _, c := range []struct{ n, m, want int }{
		{7, 8, 0}, {0, 8, 1}, {6, 8, 7}, {127, 128, 0}, {32767, 32768, 0}, {65535, 65536, 0},
	} {
		if got := Next(c.n, c.m); got != c.want {
			t.Errorf("Next(%d, %d) = %d, want %d", c.n, c.m, got, c.want)
		}
	}
}

func TestP101NextOfCongruentNumbers(t *testing.T) {
	for _, c := range []struct{ n, m, want int }{
		{8, 8, 1}, {15, 8, 0}, {-1, 8, 0}, {-2, 8, 7}, {-8, 8, 1}, {-9, 8, 0}, {-10, 8, 7},
	} {
		if got := Next(c.n, c.m); got != c.want {
			t.Errorf("Next(%d, %d) = %d, want %d", c.n, c.m, got, c.want)
		}
	}
}

func TestP101ModulusIsLimited(t *testing.T) {
	for _, m := range []int{1, 0, -1, -8, math.MinInt} {
		if got := Next(5, m); got != 0 {
			t.Errorf("Next(5, %d) = %d, want 0", m, got)
		}
		if got := Dist(5, 9, m); got != 0 {
			t.Errorf("Dist(5, 9, %d) = %d, want 0", m, got)
		}
		if !In(9, 5, 1, m) || In(9, 5, 0, m) {
			t.Errorf("In(9, 5, n, %d) must hold for n = 1 and not for n = 0", m)
		}
	}
	for _, m := range []int{top, top + 1, math.MaxInt32, math.MaxInt} {
		if got := Next(top-1, m); got != 0 {
			t.Errorf("Next(2^30 - 1, %d) = %d, want 0", m, got)
		}
		if got := Dist(0, -1, m); got != top-1 {
			t.Errorf("Dist(0, -1, %d) = %d, want %d", m, got, top-1)
		}
		if !In(-1, 0, top, m) || In(-1, 0, top-1, m) {
			t.Errorf("In(-1, 0, n, %d) must hold for n = 2^30 and not for n = 2^30 - 1", m)
		}
	}
	if got := Next(top-2, top-1); got != 0 {
		t.Errorf("Next(2^30 - 2, 2^30 - 1) = %d, want 0: a valid modulus was limited", got)
	}
}

func TestP101DistCountsNext(t *testing.T) {
	for m := -1; m <= 12; m++ {
		for a := -15; a <= 26; a++ {
			at := Dist(0, a, m)
			for steps := range limited(m) {
				if got := Dist(a, at, m); got != steps {
					t.Fatalf("Dist(%d, %d, %d) = %d, want %d", a, at, m, got, steps)
				}
				at = Next(at, m)
			}
			if got := Dist(a, at, m); got != 0 {
				t.Fatalf("Dist(%d, %d, %d) = %d after a whole round, want 0", a, at, m, got)
			}
		}
	}
}

func TestP101AllNumbersAndModuli(t *testing.T) {
	for _, m := range moduli {
		for _, a := range numbers {
			if got, want := Next(a, m), wantNext(a, m); got != want {
				t.Errorf("Next(%d, %d) = %d, want %d", a, m, got, want)
			}
			for _, b := range numbers {
				if got, want := Dist(a, b, m), wantDist(a, b, m); got != want {
					t.Errorf("Dist(%d, %d, %d) = %d, want %d", a, b, m, got, want)
				}
			}
		}
	}
}

func TestP101InComparesDist(t *testing.T) {
	for _, m := range moduli {
		for _, low := range numbers {
			for _, x := range numbers {
				dist := wantDist(low, x, m)
				for _, n := range []int{math.MinInt, -1, 0, 1, dist - 1, dist, dist + 1, limited(m), math.MaxInt} {
					if got, want := In(x, low, n, m), dist < n; got != want {
						t.Errorf("In(%d, %d, %d, %d) = %t, want %t", x, low, n, m, got, want)
					}
				}
			}
		}
	}
}

func TestP101InOfWindowThatWraps(t *testing.T) {
	inside := map[int]bool{6: true, 7: true, 0: true}
	for x := range 8 {
		if got := In(x, 6, 3, 8); got != inside[x] {
			t.Errorf("In(%d, 6, 3, 8) = %t, want %t", x, got, inside[x])
		}
	}
}

type answers struct {
	next, dist int
	in         bool
}

func ask(a, b, m int) answers {
	return answers{Next(a, m), Dist(a, b, m), In(b, a, 8, m)}
}

// ways to go through all triples, so that each call follows different ones.
func forward(visit func(a, b, m int)) {
	for _, m := range moduli {
		for _, a := range numbers {
			for _, b := range numbers {
				visit(a, b, m)
			}
		}
	}
}

func backward(visit func(a, b, m int)) {
	for i := len(numbers) - 1; i >= 0; i-- {
		for j := len(numbers) - 1; j >= 0; j-- {
			for k := len(moduli) - 1; k >= 0; k-- {
				visit(numbers[i], numbers[j], moduli[k])
			}
		}
	}
}

func TestP102ResultsDoNotDependOnEarlierCalls(t *testing.T) {
	first := map[[3]int]answers{}
	forward(func(a, b, m int) { first[[3]int{a, b, m}] = ask(a, b, m) })
	check := func(a, b, m int) {
		if got, want := ask(a, b, m), first[[3]int{a, b, m}]; got != want {
			t.Errorf("%d, %d, %d: %v, but %v at first", a, b, m, got, want)
		}
	}
	backward(check)
	forward(check)
}

func TestP102ResultsDoNotDependOnCallsAtTheSameTime(t *testing.T) {
	var joined sync.WaitGroup
	for worker := range 4 {
		joined.Go(func() {
			walk := forward
			if worker%2 == 1 {
				walk = backward
			}
			walk(func(a, b, m int) {
				dist := wantDist(a, b, m)
				if got, want := ask(a, b, m), (answers{wantNext(a, m), dist, dist < 8}); got != want {
					t.Errorf("%d, %d, %d: %v, want %v", a, b, m, got, want)
				}
			})
		})
	}
	joined.Wait()
}
