package twins

import (
	"math"
	"math/rand"
	"slices"
	"sync"
	"testing"
)

// top is the greatest number; the next one is 0.
const top = math.MaxUint32

// sizes holds for each number given to New how many numbers the table remembers.
var sizes = []struct{ given, size int }{
	{1, 1}, {2, 2}, {3, 3}, {4, 4}, {7, 7}, {8, 8}, {63, 63}, {64, 64}, {65, 65}, {100, 100}, {1000, 1000}, {2048, 2048}, {4095, 4095}, {4096, 4096},
	{0, 1}, {-1, 1}, {-2, 1}, {-4096, 1}, {math.MinInt32, 1}, {-1 << 32, 1}, {math.MinInt + 1, 1}, {math.MinInt, 1},
	{4097, 4096}, {4098, 4096}, {8192, 4096}, {65536, 4096}, {math.MaxInt32, 4096}, {1 << 32, 4096}, {1<<32 + 1, 4096}, {math.MaxInt - 1, 4096}, {math.MaxInt, 4096},
}

// firsts holds numbers from which on to count, among them those around which the numbers and the places of a table wrap around.
var firsts = []uint32{0, 1, 2, 5, 4094, 4095, 4096, 4097, 10000, half - 2, half - 1, half, half + 1, top - 4096, top - 4095, top - 2, top - 1, top}

// model is a table that counts places that never wrap around, and forgets nothing.
type model struct {
	size    int64
	highest int64
	last    uint32
	arrived map[int64]bool
}

func newModel(size int) *model {
	return &model{size: int64(size), arrived: map[int64]bool{}}
}

// place returns where n lies: less than 2^31 ahead of the highest number, or at most 2^31 behind it.
func (m *model) place(n uint32) int64 {
	d := (int64(n) - int64(m.last) + 1<<32) % (1 << 32)
	if d < 1<<31 {
		return m.highest + d
	}
	return m.highest + d - 1<<32
}

func (m *model) fresh(n uint32) bool {
	if len(m.arrived) == 0 {
		m.highest, m.last = 0, n
		m.arrived[0] = true
		return true
	}
	p := m.place(n)
	if m.arrived[p] || m.highest-p >= m.size {
		return false
	}
	m.arrived[p] = true
	if p > m.highest {
		m.highest, m.last = p, n
	}
	return true
}

func (m *model) clear() {
	m.arrived = map[int64]bool{}
}

// call is one number that arrives, and whether it is new.
type call struct {
	n    uint32
	want bool
}

// wantFresh lets n arrive.
func wantFresh(t *testing.T, table *Table, n uint32, want bool) {
	t.Helper()
	if got := table.Fresh(n); got != want {
		t.Errorf("Fresh(%d) = %v, want %v", n, got, want)
	}
}

// play lets numbers arrive one after the other, all of them moved by the same distance.
func play(t *testing.T, table *Table, from uint32, calls []call) {
	t.Helper()
	for i, c := range calls {
		if got := table.Fresh(from + c.n); got != c.want {
			t.Errorf("size %d, from %d: Fresh(%d), call %d of %v: %v, want %v", table.size, from, from+c.n, i, calls, got, c.want)
			return
		}
	}
}

// less returns from - d, also where d is a constant.
func less(from, d uint32) uint32 {
	return from - d
}

func TestP1001Example(t *testing.T) {
	for _, s := range sizes {
		table := New(s.given)
		wantFresh(t, table, 5, true)
		wantFresh(t, table, 5, false)
	}
}

func TestP1001SizeIsLimited(t *testing.T) {
	for _, s := range sizes {
		for _, n := range firsts {
			table := New(s.given)
			wantFresh(t, table, n, true)
			for d := 1; d < 5000; d++ {
				if got := table.Fresh(n - uint32(d)); got != (d < s.size) {
					t.Fatalf("New(%d): %d behind the first number %d: %v", s.given, d, n, got)
				}
			}
			for d := range 5000 {
				if table.Fresh(n - uint32(d)) {
					t.Fatalf("New(%d): %d behind %d: fresh again", s.given, d, n)
				}
			}
		}
	}
}

func TestP1001FirstNumber(t *testing.T) {
	for _, s := range sizes {
		for _, n := range firsts {
			table := New(s.given)
			wantFresh(t, table, n, true)
			for range 3 {
				wantFresh(t, table, n, false)
			}
			// The first number is the highest one, wherever it lies: the next one is ahead of it, and all from half on lie behind it.
			wantFresh(t, table, n+half, false)
			wantFresh(t, table, n+half+1, false)
			wantFresh(t, table, n+1, true)
			wantFresh(t, table, n, false)
			wantFresh(t, table, n+1, false)
		}
	}
}

// TestP1001FirstIsNotZero is about tables that would take 0 for the highest number ahead of the first one.
func TestP1001FirstIsNotZero(t *testing.T) {
	for _, size := range []int{1, 4, 4096} {
		wantFresh(t, New(size), 0, true)
		for _, d := range []uint32{1, 3, 4, 5, 4095, 4096, 5000, half - 1, half} {
			wantFresh(t, New(size), less(0, d), true)
			table := New(size)
			wantFresh(t, table, less(0, d), true)
			wantFresh(t, table, 0, d < half)
		}
	}
}

func TestP1001Ahead(t *testing.T) {
	for _, s := range sizes {
		size := uint32(s.size)
		for _, n := range firsts {
			for _, d := range []uint32{1, 2, size - 1, size, size + 1, 2 * size, 4095, 4096, 4097, 8192, 1 << 20, 1 << 30, half - 2, half - 1} {
				if d == 0 {
					continue
				}
				table := New(s.given)
				wantFresh(t, table, n, true)
				wantFresh(t, table, n+d, true)
				wantFresh(t, table, n+d, false)
				wantFresh(t, table, n, false)
				// The numbers between, and those behind the old highest number, have not arrived; of them those within size count.
				behind := []uint32{1, 2, size - 1, size, size + 1, d - 1, d + 1, 4095, 4096}
				slices.Sort(behind)
				for _, b := range slices.Compact(behind) {
					if b == 0 || b == d {
						continue
					}
					if got, want := table.Fresh(n+d-b), b < size; got != want {
						t.Errorf("New(%d): %d and %d more: %d behind that: %v, want %v", s.given, n, d, b, got, want)
					}
					wantFresh(t, table, n+d-b, false)
				}
				wantFresh(t, table, n+d, false)
			}
		}
	}
}

func TestP1001HalfwayIsBehind(t *testing.T) {
	for _, s := range sizes {
		for _, n := range firsts {
			for _, d := range []uint32{half, half + 1, half + 4096, less(0, 5000), less(0, 4097), less(0, 4096)} {
				table := New(s.given)
				wantFresh(t, table, n, true)
				for range 2 {
					wantFresh(t, table, n+d, false)
				}
				// The highest number is still n.
				wantFresh(t, table, n, false)
				wantFresh(t, table, n+half-1, true)
				wantFresh(t, table, n+half-1, false)
			}
		}
	}
}

// TestP1001BehindIsNotHighest lets numbers arrive from behind, and looks whether the highest one has stayed where it was.
func TestP1001BehindIsNotHighest(t *testing.T) {
	for _, n := range firsts {
		play(t, New(4), n, []call{
			{100, true}, {97, true}, {96, false}, {95, false}, {97, false}, {98, true}, {96, false}, {99, true},
			{100, false}, {99, false}, {98, false}, {97, false}, {96, false}, {101, true}, {98, false}, {97, false},
		})
		play(t, New(4), n, []call{{100, true}, {97, true}, {97 + half, true}, {97 + half - 1, true}, {97 + half - 3, true}, {97 + half - 4, false}})
		play(t, New(4), n, []call{{100, true}, {97, true}, {100 + half - 1, true}, {100, false}, {97, true}, {100, true}, {97, false}})
		play(t, New(4), n, []call{{100, true}, {97, true}, {100 + half, false}, {96 + half, true}})
	}
}

func TestP1001Rows(t *testing.T) {
	rows := []struct {
		size  int
		calls []call
	}{
		// Only the highest number counts.
		{1, []call{{10, true}, {10, false}, {9, false}, {8, false}, {11, true}, {10, false}, {11, false}, {13, true}, {12, false}, {13, false}, {14, true}}},
		{2, []call{{10, true}, {9, true}, {9, false}, {8, false}, {11, true}, {10, false}, {9, false}, {13, true}, {12, true}, {12, false}, {11, false}, {13, false}}},
		// Ahead by 1, by less than size, by size, by more than size; what lies between arrives later, once and twice.
		{4, []call{{10, true}, {11, true}, {10, false}, {9, true}, {8, true}, {7, false}, {9, false}, {8, false}}},
		{4, []call{{10, true}, {13, true}, {12, true}, {12, false}, {11, true}, {11, false}, {10, false}, {9, false}}},
		{4, []call{{10, true}, {14, true}, {10, false}, {11, true}, {11, false}, {12, true}, {13, true}, {13, false}, {12, false}}},
		{4, []call{{10, true}, {15, true}, {10, false}, {11, false}, {12, true}, {12, false}, {14, true}, {13, true}, {14, false}}},
		// Behind, both what had arrived and what had not.
		{4, []call{{10, true}, {11, true}, {13, true}, {13, false}, {12, true}, {11, false}, {10, false}, {9, false}}},
		{4, []call{{10, true}, {12, true}, {13, true}, {14, true}, {13, false}, {12, false}, {11, true}, {11, false}, {10, false}, {9, false}}},
		// Within size when it arrived, left behind, and there again.
		{4, []call{{10, true}, {11, true}, {12, true}, {13, true}, {10, false}, {14, true}, {10, false}, {11, false}, {15, true}, {11, false}, {10, false}}},
		{4, []call{{10, true}, {8, true}, {8, false}, {12, true}, {8, false}, {9, true}, {13, true}, {9, false}, {10, false}}},
		// Numbers that share their places with older ones, 4,096 and 8,192 behind.
		{4096, []call{{0, true}, {4096, true}, {0, false}, {1, true}, {1, false}, {4097, true}, {1, false}, {4095, true}, {4095, false}, {8191, true}, {4096, false}, {4095, false}, {8190, true}}},
		{4096, []call{{0, true}, {1, true}, {2, true}, {4098, true}, {2, false}, {4097, true}, {4096, true}, {4096, false}, {8192, true}, {4098, false}, {4096, false}, {4099, true}, {8191, true}}},
		{4095, []call{{0, true}, {4094, true}, {0, false}, {1, true}, {4095, true}, {0, false}, {1, false}, {4096, true}, {1, false}, {2, true}, {4097, true}, {2, false}, {4096, false}}},
		{100, []call{{0, true}, {99, true}, {0, false}, {1, true}, {100, true}, {0, false}, {1, false}, {101, true}, {1, false}, {2, true}, {8292, true}, {8292 - 99, true}, {8292 - 100, false}}},
		// As far ahead as can be, time and again: all around, and to the places of the first numbers.
		{4, []call{{10, true}, {9, true}, {8, true}, {9 + half, true}, {8 + half, true}, {8 + half, false}, {10, false}, {8, true}, {7, true}, {10, true}, {9, true}, {9, false}, {7, false}}},
		{4096, []call{{10, true}, {9, true}, {8, true}, {8 + half, true}, {9, false}, {8, false}, {7, true}, {10, true}, {9, true}, {8, true}, {8, false}, {9, false}, {7, false}}},
	}
	for _, row := range rows {
		for _, from := range firsts {
			play(t, New(row.size), from, row.calls)
		}
	}
}

// TestP1001AllAround lets the numbers go around until those that have arrived are ahead again: they must not be taken for the old ones.
func TestP1001AllAround(t *testing.T) {
	for _, s := range sizes {
		for _, n := range firsts {
			table := New(s.given)
			for d := range s.size {
				wantFresh(t, table, n-uint32(d), true)
			}
			for round := range 3 {
				// Four steps of 2^30 lead to n again.
				for step := range uint32(4) {
					at := n + (step+1)<<30
					wantFresh(t, table, at, true)
					wantFresh(t, table, at, false)
				}
				for d := 1; d < s.size; d++ {
					if !table.Fresh(n - uint32(d)) {
						t.Fatalf("New(%d): round %d, %d behind %d: not fresh", s.given, round, d, n)
					}
				}
				wantFresh(t, table, n-uint32(s.size), false)
				wantFresh(t, table, n, false)
			}
		}
	}
}

// TestP1001GapsAreEmpty fills a table, goes ahead by d, and asks for each of the numbers behind.
func TestP1001GapsAreEmpty(t *testing.T) {
	for _, size := range []int{1, 2, 4, 64, 100, 2048, 4095, 4096} {
		for _, d := range []int{1, 2, 3, 4, 5, 63, 64, 65, 99, 100, 101, 2047, 2048, 4094, 4095, 4096, 4097, 5000, 8191, 8192, 8193, 12288} {
			for _, n := range firsts {
				table := New(size)
				for b := range size {
					table.Fresh(n - uint32(b))
				}
				wantFresh(t, table, n+uint32(d), true)
				for b := 1; b < size+d+2; b++ {
					want := b < d && b < size
					if got := table.Fresh(n + uint32(d-b)); got != want {
						t.Fatalf("size %d: all up to %d, and %d more: %d behind that: %v", size, n, d, b, got)
					}
					if table.Fresh(n + uint32(d-b)) {
						t.Fatalf("size %d: all up to %d, and %d more: %d behind that: fresh again", size, n, d, b)
					}
				}
			}
		}
	}
}

func TestP1001RefusedNumbersHaveNotArrived(t *testing.T) {
	for _, n := range firsts {
		// What is too far behind is refused, and takes nobody's place.
		for _, size := range []int{1, 4, 4095, 4096} {
			table := New(size)
			wantFresh(t, table, n, true)
			for b := size; b < size+4100; b++ {
				wantFresh(t, table, n-uint32(b), false)
			}
			for b := 1; b < size; b++ {
				wantFresh(t, table, n-uint32(b), true)
			}
			for a := uint32(1); a <= 4100; a++ {
				wantFresh(t, table, n+a, true)
			}
		}
	}
}

func TestP1001Clear(t *testing.T) {
	for _, s := range sizes {
		for _, n := range firsts {
			table := New(s.given)
			table.Clear()
			wantFresh(t, table, n, true)
			wantFresh(t, table, n, false)
			wantFresh(t, table, n-1, s.size > 1)
			wantFresh(t, table, n+2, true)
			// The first number behind a Clear is new wherever it lies.
			for _, d := range []uint32{0, 1, 2, 3, less(0, 1), less(0, 2), less(0, 4096), less(0, 5000), 4096, half - 1, half, half + 1} {
				table.Clear()
				wantFresh(t, table, n+d, true)
				wantFresh(t, table, n+d, false)
				wantFresh(t, table, n+d+half, false)
				wantFresh(t, table, n+d+1, true)
				wantFresh(t, table, n+d, false)
			}
			table.Clear()
			table.Clear()
			for b := range s.size + 2 {
				if got := table.Fresh(n - uint32(b)); got != (b < s.size) {
					t.Fatalf("New(%d): %d behind the first number %d after a Clear: %v", s.given, b, n, got)
				}
			}
		}
	}
}

// TestP1001ClearForgets lets the same numbers arrive before and after a Clear.
func TestP1001ClearForgets(t *testing.T) {
	calls := []call{
		{10, true}, {11, true}, {13, true}, {12, true}, {12, false}, {10, false}, {9, false}, {13 + 4096, true}, {12 + 4096, true},
		{11 + 4096, true}, {12 + 4096, false}, {half, true}, {12, false}, {half - 3, true}, {half - 4, false},
	}
	for _, n := range firsts {
		table := New(4)
		for range 5 {
			play(t, table, n, calls)
			table.Clear()
		}
	}
}

// twin compares a table and its model, call by call.
func twin(t *testing.T, table *Table, m *model, n uint32) {
	t.Helper()
	if got, want := table.Fresh(n), m.fresh(n); got != want {
		t.Fatalf("size %d, highest %d: Fresh(%d) = %v, want %v", m.size, m.last, n, got, want)
	}
}

// TestP1001AllShortRows lets all rows of six numbers out of seven arrive.
func TestP1001AllShortRows(t *testing.T) {
	for _, size := range []int{1, 2, 3, 5} {
		for row := range 7 * 7 * 7 * 7 * 7 * 7 {
			table, m := New(size), newModel(size)
			for range 6 {
				twin(t, table, m, uint32(row%7)-3)
				row /= 7
			}
		}
	}
}

// TestP1001AllRowsOfSteps lets all rows of four steps happen behind a first number, among them Clear, a step that is no number.
func TestP1001AllRowsOfSteps(t *testing.T) {
	for _, size := range []int{1, 3, 4095, 4096} {
		s := uint32(size)
		steps := []uint32{0, 1, s, s + 1, less(0, 1), 1 - s, less(0, s), 4096, half - 1, half, less(half, s), 1 << 30}
		for row := range 13 * 13 * 13 * 13 {
			table, m := New(size), newModel(size)
			twin(t, table, m, less(0, 2))
			for range 4 {
				if step := row % 13; step < len(steps) {
					twin(t, table, m, m.last+steps[step])
				} else {
					table.Clear()
					m.clear()
				}
				row /= 13
			}
			for b := range uint32(8) {
				twin(t, table, m, m.last-b)
			}
		}
	}
}

// someNumber returns a number that lies at an interesting distance of the highest one.
func someNumber(r *rand.Rand, m *model) uint32 {
	size := int(m.size)
	switch r.Intn(12) {
	case 0:
		return r.Uint32()
	case 1:
		return m.last + uint32(r.Intn(10000))
	case 2:
		return m.last - uint32(r.Intn(10000))
	case 3:
		return m.last + half + uint32(r.Intn(9)) - 4
	case 4:
		return m.last - uint32(size) + uint32(r.Intn(5)) - 2
	case 5:
		return m.last + uint32(size) + uint32(r.Intn(5)) - 2
	case 6:
		return m.last + 4096 + uint32(r.Intn(5)) - 2
	case 7, 8:
		return m.last + uint32(r.Intn(4))
	}
	return m.last - uint32(r.Intn(size))
}

func TestP1001RandomNumbers(t *testing.T) {
	r := rand.New(rand.NewSource(10))
	for _, s := range sizes {
		for range 6 {
			table, m := New(s.given), newModel(s.size)
			clears := r.Intn(2) * 200
			twin(t, table, m, firsts[r.Intn(len(firsts))])
			for range 3000 {
				if clears > 0 && r.Intn(clears) == 0 {
					table.Clear()
					m.clear()
				}
				twin(t, table, m, someNumber(r, m))
			}
		}
	}
}

// twice returns a row in which each of count numbers from first on occurs twice: for the first time at most reach behind the highest one, and for the second time at most again, which is not less.
func twice(r *rand.Rand, first uint32, count, reach, again int) []uint32 {
	var row []uint32
	arrivals := make([]int, count)
	low, high := 0, 0
	for low < count {
		// The lowest number that is missing always may come; any other one only if it leaves none behind.
		next := low + r.Intn(min(count, low+again+1)-low)
		if arrivals[next] == 2 || r.Intn(3) == 0 {
			next = low
		}
		if next > high && !mayRise(arrivals, next, reach, again) {
			next = low
		}
		arrivals[next]++
		high = max(high, next)
		row = append(row, first+uint32(next))
		for low < count && arrivals[low] == 2 {
			low++
		}
	}
	return row
}

// mayRise reports whether next can be the highest number without leaving another one behind.
func mayRise(arrivals []int, next, reach, again int) bool {
	for i := range next {
		if arrivals[i] == 0 && next-i > reach || arrivals[i] == 1 && next-i > again {
			return false
		}
	}
	return true
}

// wantOnce lets a row of numbers arrive, each of which is to be new exactly once: when it arrives for the first time.
func wantOnce(t *testing.T, table *Table, row []uint32) {
	t.Helper()
	seen := map[uint32]int{}
	for i, n := range row {
		if got := table.Fresh(n); got != (seen[n] == 0) {
			t.Fatalf("size %d: Fresh(%d), number %d of the row: %v at arrival %d", table.size, n, i, got, seen[n]+1)
		}
		seen[n]++
	}
}

func TestP1002EachOnce(t *testing.T) {
	r := rand.New(rand.NewSource(1002))
	for _, size := range []int{1, 2, 3, 4, 8, 64, 100} {
		for _, n := range firsts {
			for range 5 {
				// A number that arrives again may be as far behind as size; one that arrives for the first time is new up to size - 1 (P1001).
				row := twice(r, n, 400, size-1, size)
				if len(row) != 800 {
					t.Fatalf("size %d: a row of %d numbers", size, len(row))
				}
				wantOnce(t, New(size), row)
			}
		}
	}
}

func TestP1002EachOnceOnTwoLines(t *testing.T) {
	for _, size := range []int{1, 2, 4, 64, 100, 4095, 4096} {
		for _, n := range firsts {
			for _, lag := range []int{0, 1, size / 2, size - 1, size} {
				// The first line transmits the numbers, and the second one the same numbers later.
				var row []uint32
				for i := range 5000 + lag {
					if i < 5000 {
						row = append(row, n+uint32(i))
					}
					if i >= lag {
						row = append(row, n+uint32(i-lag))
					}
				}
				wantOnce(t, New(size), row)
			}
		}
	}
}

// TestP1002AtSize shows how far behind the highest number a first arrival counts, and that a second one never does.
func TestP1002AtSize(t *testing.T) {
	for _, s := range sizes {
		for _, n := range firsts {
			table := New(s.given)
			wantFresh(t, table, n+1, true)
			wantFresh(t, table, n+uint32(s.size), s.size > 1)
			wantFresh(t, table, n+uint32(s.size)+1, true)
			wantFresh(t, table, n+1, false)
			wantFresh(t, table, n+2, s.size > 2)
			wantFresh(t, table, n+uint32(s.size)+2, true)
			wantFresh(t, table, n+2, false)
			wantFresh(t, table, n+1, false)
			wantFresh(t, table, n+3, s.size > 3)
		}
	}
}

// TestP1002EachOnceWithLosses lets each of two lines lose blocks of numbers that the other one transmits.
func TestP1002EachOnceWithLosses(t *testing.T) {
	for _, size := range []int{64, 100, 4095, 4096} {
		for _, n := range firsts {
			// The second line lags by lag; blocks of numbers are transmitted twice on one line alone, by turns.
			lag := size - 1
			var row []uint32
			for i := range 10000 + lag {
				if i < 10000 && i/40%3 != 1 {
					row = append(row, n+uint32(i))
					if i/40%3 == 2 {
						row = append(row, n+uint32(i))
					}
				}
				if k := i - lag; k >= 0 && k/40%3 != 2 {
					row = append(row, n+uint32(k))
					if k/40%3 == 1 {
						row = append(row, n+uint32(k))
					}
				}
			}
			wantOnce(t, New(size), row)
		}
	}
}

func TestP1002Independent(t *testing.T) {
	r := rand.New(rand.NewSource(7))
	var tables []*Table
	var models []*model
	for _, size := range []int{4, 4, 1, 4096, 4096, 100} {
		tables = append(tables, New(size))
		models = append(models, newModel(size))
	}
	for range 60000 {
		i := r.Intn(len(tables))
		if r.Intn(500) == 0 {
			tables[i].Clear()
			models[i].clear()
		}
		n := someNumber(r, models[r.Intn(len(models))])
		if r.Intn(2) == 0 {
			n = someNumber(r, models[i])
		}
		twin(t, tables[i], models[i], n)
	}
}

func TestP1002SameNumbersByTurns(t *testing.T) {
	for _, n := range firsts {
		a, b := New(4), New(4)
		for i := range uint32(5000) {
			wantFresh(t, a, n+i, true)
			wantFresh(t, b, n+i, true)
			wantFresh(t, a, n+i, false)
			wantFresh(t, b, n+i, false)
		}
		a.Clear()
		wantFresh(t, b, n+4999, false)
		wantFresh(t, a, n+4999, true)
		wantFresh(t, b, n+4998, false)
		wantFresh(t, a, n+4998, true)
		c := New(4)
		wantFresh(t, b, n+5000, true)
		wantFresh(t, c, n, true)
		wantFresh(t, b, n, false)
	}
}

// TestP1002SameCallsSameAnswers is about answers that hang on anything but the calls on the same table (P102).
func TestP1002SameCallsSameAnswers(t *testing.T) {
	var first []bool
	for round := range 5 {
		r := rand.New(rand.NewSource(3))
		table, m := New(100), newModel(100)
		for i := range 2000 {
			n := someNumber(r, m)
			m.fresh(n)
			got := table.Fresh(n)
			if round == 0 {
				first = append(first, got)
			} else if first[i] != got {
				t.Fatalf("round %d: Fresh(%d), call %d: %v, and %v at first", round, n, i, got, first[i])
			}
		}
	}
}

func TestP1002Goroutines(t *testing.T) {
	var joined sync.WaitGroup
	for i := range 8 {
		joined.Go(func() {
			r := rand.New(rand.NewSource(int64(i)))
			size := 1 + i*500
			table, m := New(size), newModel(size)
			for range 5000 {
				n := someNumber(r, m)
				if got, want := table.Fresh(n), m.fresh(n); got != want {
					t.Errorf("table %d: Fresh(%d) = %v, want %v", i, n, got, want)
					return
				}
			}
		})
	}
	joined.Wait()
}

// TestCopies is about tables that a higher layer holds by value.
func TestCopies(t *testing.T) {
	table := *New(4)
	table.Fresh(10)
	other := table
	wantFresh(t, &table, 9, true)
	wantFresh(t, &other, 9, true)
	wantFresh(t, &table, 12, true)
	wantFresh(t, &other, 7, true)
	other.Clear()
	wantFresh(t, &table, 9, false)
	wantFresh(t, &other, 9, true)
}
