package clock

import (
	"math"
	"math/rand"
	"slices"
	"sync"
	"testing"
)

const top = 1 << 30

// strangers holds numbers of which there is no timer.
var strangers = []int{-1, -2, -31, -32, -33, math.MinInt32, math.MinInt, 32, 33, 63, 64, 255, 256, math.MaxInt32, math.MaxInt}

// delays holds for each number of steps given to Start after how many the timer expires.
var delays = []struct{ after, steps int }{
	{1, 1}, {2, 2}, {3, 3}, {5, 5}, {31, 31}, {32, 32}, {1000, 1000}, {65536, 65536},
	{0, 1}, {-1, 1}, {-5, 1}, {-top, 1}, {math.MinInt32, 1}, {math.MinInt + 1, 1}, {math.MinInt, 1},
	{top - 1, top - 1}, {top, top}, {top + 1, top}, {top + 2, top}, {2 * top, top}, {math.MaxInt32, top}, {math.MaxInt - 1, top}, {math.MaxInt, top},
}

// passes holds for each number given to Pass how many steps pass.
var passes = []struct{ n, steps int }{
	{0, 0}, {1, 1}, {2, 2}, {7, 7}, {1000, 1000}, {65536, 65536},
	{-1, 0}, {-2, 0}, {-top, 0}, {math.MinInt32, 0}, {math.MinInt + 1, 0}, {math.MinInt, 0},
	{top - 1, top - 1}, {top, top}, {top + 1, top}, {top + 2, top}, {2 * top, top}, {math.MaxInt32, top}, {math.MaxInt - 1, top}, {math.MaxInt, top},
}

func wantPassed(t *testing.T, s *Set, n int, want ...int) {
	t.Helper()
	if got := s.Pass(n); !slices.Equal(got, want) {
		t.Errorf("Pass(%d) = %v, want %v", n, got, want)
	}
}

func wantLeft(t *testing.T, s *Set, id, want int) {
	t.Helper()
	if got, ok := s.Left(id); got != want || !ok {
		t.Errorf("Left(%d) = %d, %t, want %d, true", id, got, ok, want)
	}
}

func wantStopped(t *testing.T, s *Set, ids ...int) {
	t.Helper()
	for _, id := range ids {
		if got, ok := s.Left(id); got != 0 || ok {
			t.Errorf("Left(%d) = %d, %t, want 0, false", id, got, ok)
		}
	}
}

func wantAllStopped(t *testing.T, s *Set) {
	t.Helper()
	for id := range 32 {
		wantStopped(t, s, id)
	}
}

func wantNow(t *testing.T, s *Set, want uint32) {
	t.Helper()
	if got := s.Now(); got != want {
		t.Errorf("Now() = %d, want %d", got, want)
	}
}

func start(t *testing.T, s *Set, id, after int) {
	t.Helper()
	if !s.Start(id, after) {
		t.Errorf("Start(%d, %d) = false", id, after)
	}
}

func stop(t *testing.T, s *Set, id int, want bool) {
	t.Helper()
	if got := s.Stop(id); got != want {
		t.Errorf("Stop(%d) = %t, want %t", id, got, want)
	}
}

func TestP701TheExample(t *testing.T) {
	s := New(0)
	start(t, s, 3, 5)
	wantPassed(t, s, 5, 3)
	wantNow(t, s, 5)
}

func TestP701ANewSet(t *testing.T) {
	for _, at := range []uint32{0, 1, 1000, 1<<31 - 1, 1 << 31, math.MaxUint32 - 1, math.MaxUint32} {
		s := New(at)
		wantNow(t, s, at)
		wantAllStopped(t, s)
		for id := range 32 {
			stop(t, s, id, false)
		}
		wantPassed(t, s, top)
		wantNow(t, s, at+top)
	}
}

// A number that is no timer's is refused, and no timer of the set changes by it.
func TestP701NumbersWithoutATimer(t *testing.T) {
	for _, id := range strangers {
		s := New(9)
		for known := range 32 {
			start(t, s, known, 10+known)
		}
		if s.Start(id, 5) {
			t.Errorf("Start(%d, 5) = true", id)
		}
		stop(t, s, id, false)
		wantStopped(t, s, id)
		wantNow(t, s, 9)
		for known := range 32 {
			wantLeft(t, s, known, 10+known)
		}
		wantPassed(t, s, 9)
		for known := range 32 {
			wantPassed(t, s, 1, known)
		}
	}
}

// Each timer is one of its own, the first and the last one too.
func TestP701EachTimerAlone(t *testing.T) {
	for id := range 32 {
		s := New(0)
		start(t, s, id, 4)
		for other := range 32 {
			if other != id {
				wantStopped(t, s, other)
				stop(t, s, other, false)
			}
		}
		wantLeft(t, s, id, 4)
		wantPassed(t, s, 3)
		wantLeft(t, s, id, 1)
		wantPassed(t, s, 1, id)
		wantAllStopped(t, s)
		start(t, s, id, 4)
		stop(t, s, id, true)
		wantAllStopped(t, s)
		wantPassed(t, s, top)
	}
}

func TestP701TheStepsOfStartAreLimited(t *testing.T) {
	for _, d := range delays {
		for _, id := range []int{0, 17, 31} {
			s := New(0)
			start(t, s, id, d.after)
			wantLeft(t, s, id, d.steps)
			wantPassed(t, s, d.steps-1)
			wantLeft(t, s, id, 1)
			wantPassed(t, s, 1, id)
			wantStopped(t, s, id)
			wantNow(t, s, uint32(d.steps))
		}
	}
}

func TestP701TheStepsOfPassAreLimited(t *testing.T) {
	for _, p := range passes {
		s := New(100)
		start(t, s, 6, top)
		var want []int
		if p.steps == top {
			want = []int{6}
		}
		wantPassed(t, s, p.n, want...)
		wantNow(t, s, 100+uint32(p.steps))
		if p.steps == top {
			wantStopped(t, s, 6)
		} else {
			wantLeft(t, s, 6, top-p.steps)
		}
	}
}

func TestP701AllDelaysAndPasses(t *testing.T) {
	for _, d := range delays {
		for _, p := range passes {
			s := New(0)
			start(t, s, 8, d.after)
			if p.steps >= d.steps {
				wantPassed(t, s, p.n, 8)
				wantStopped(t, s, 8)
				stop(t, s, 8, false)
			} else {
				wantPassed(t, s, p.n)
				wantLeft(t, s, 8, d.steps-p.steps)
				stop(t, s, 8, true)
			}
			wantNow(t, s, uint32(p.steps))
		}
	}
}

// When no step passes, nothing expires and nothing changes.
func TestP701NoStepPasses(t *testing.T) {
	s := New(math.MaxUint32)
	start(t, s, 0, 1)
	start(t, s, 31, 2)
	for _, n := range []int{0, -1, math.MinInt, 0} {
		wantPassed(t, s, n)
		wantNow(t, s, math.MaxUint32)
		wantLeft(t, s, 0, 1)
		wantLeft(t, s, 31, 2)
	}
	wantPassed(t, s, 1, 0)
	wantPassed(t, s, 0)
	wantLeft(t, s, 31, 1)
}

func TestP701AtTheLastStepAndOneLater(t *testing.T) {
	for _, n := range []int{1, 2, 5, 1000, top - 1} {
		s := New(0)
		start(t, s, 10, n)
		start(t, s, 4, n+1)
		wantPassed(t, s, n, 10)
		wantStopped(t, s, 10)
		wantLeft(t, s, 4, 1)
		wantPassed(t, s, 1, 4)
		wantAllStopped(t, s)
	}
}

func TestP701ARestartCountsFromItsOwnTime(t *testing.T) {
	for _, c := range []struct{ first, passed, second int }{
		{7, 0, 3}, {3, 0, 7}, {7, 6, 7}, {7, 6, 1}, {7, 2, 5}, {7, 2, 6}, {top, 1, top}, {5, 4, top}, {top, 9, 1}, {4, 3, 0}, {4, 3, -4},
	} {
		s := New(0)
		start(t, s, 2, c.first)
		wantPassed(t, s, c.passed)
		start(t, s, 2, c.second)
		left := max(c.second, 1)
		wantLeft(t, s, 2, left)
		wantPassed(t, s, left-1)
		wantLeft(t, s, 2, 1)
		wantPassed(t, s, 1, 2)
		wantPassed(t, s, top)
	}
}

func TestP701AStoppedTimerDoesNotExpire(t *testing.T) {
	s := New(0)
	start(t, s, 1, 5)
	start(t, s, 2, 5)
	wantPassed(t, s, 4)
	stop(t, s, 1, true)
	wantStopped(t, s, 1)
	wantLeft(t, s, 2, 1)
	stop(t, s, 1, false)
	wantPassed(t, s, 1, 2)
	wantPassed(t, s, top)
	start(t, s, 1, 3)
	wantLeft(t, s, 1, 3)
	wantPassed(t, s, 3, 1)
}

func TestP701AnExpiredTimerIsStopped(t *testing.T) {
	s := New(0)
	for round := range 5 {
		start(t, s, 30, 2+round)
		start(t, s, 5, 2)
		if round == 0 {
			wantPassed(t, s, 2+round, 5, 30)
		} else {
			wantPassed(t, s, 2, 5)
			wantPassed(t, s, round, 30)
		}
		wantAllStopped(t, s)
		stop(t, s, 30, false)
		stop(t, s, 5, false)
		wantPassed(t, s, top)
	}
}

func TestP701LeftAndNowChangeNothing(t *testing.T) {
	s := New(50)
	start(t, s, 9, 6)
	for gone := range 6 {
		for range 4 {
			wantLeft(t, s, 9, 6-gone)
			wantStopped(t, s, 8, 10)
			wantNow(t, s, uint32(50+gone))
		}
		if gone < 5 {
			wantPassed(t, s, 1)
		}
	}
	wantPassed(t, s, 1, 9)
}

func TestP701TheOrderOfExpiry(t *testing.T) {
	for _, c := range []struct {
		ids, after, want []int
	}{
		{[]int{1, 2, 3}, []int{3, 2, 1}, []int{3, 2, 1}},
		{[]int{1, 2, 3}, []int{1, 2, 3}, []int{1, 2, 3}},
		{[]int{31, 0, 16}, []int{4, 4, 4}, []int{0, 16, 31}},
		{[]int{31, 0, 16, 20, 3}, []int{1, 9, 4, 4, 9}, []int{31, 16, 20, 0, 3}},
		// Delays that are limited to the same step.
		{[]int{12, 7, 5, 9}, []int{0, 1, -3, 2}, []int{5, 7, 12, 9}},
		{[]int{12, 7, 5, 9}, []int{math.MaxInt, top, top + 1, top - 1}, []int{9, 5, 7, 12}},
	} {
		s := New(0)
		for i, id := range c.ids {
			start(t, s, id, c.after[i])
		}
		wantPassed(t, s, top, c.want...)
		wantAllStopped(t, s)
	}
}

func TestP701AllTimersInOnePass(t *testing.T) {
	same, reverse := New(0), New(0)
	var up, down []int
	for id := range 32 {
		start(t, same, 31-id, 3)
		start(t, reverse, id, 32-id)
		up, down = append(up, id), append(down, 31-id)
	}
	wantPassed(t, same, 3, up...)
	wantPassed(t, reverse, 32, down...)
	wantAllStopped(t, same)
	wantAllStopped(t, reverse)
}

// The order is that of the steps at which timers expire, not of those with which they were started.
func TestP701TimersStartedAtDifferentTimes(t *testing.T) {
	s := New(0)
	start(t, s, 20, 10)
	wantPassed(t, s, 4)
	start(t, s, 3, 6)
	start(t, s, 2, 7)
	wantPassed(t, s, 3)
	start(t, s, 25, 3)
	start(t, s, 31, 2)
	wantPassed(t, s, 4, 31, 3, 20, 25, 2)
	wantNow(t, s, 11)
}

func TestP701TheTimeWrapsAround(t *testing.T) {
	s := New(math.MaxUint32)
	wantPassed(t, s, 1)
	wantNow(t, s, 0)
	s = New(math.MaxUint32 - 2)
	wantPassed(t, s, 2)
	wantNow(t, s, math.MaxUint32)
	wantPassed(t, s, 5)
	wantNow(t, s, 4)
	s = New(7)
	for i := range 8 {
		wantPassed(t, s, top)
		wantNow(t, s, 7+uint32(i+1)*top)
	}
	wantNow(t, s, 7)
}

func TestP701TimersRunOnWhileTheTimeWrapsAround(t *testing.T) {
	for before := range uint32(12) {
		s := New(math.MaxUint32 - before)
		start(t, s, 4, 8)
		start(t, s, 3, 6)
		start(t, s, 9, 8)
		start(t, s, 0, top)
		for i := range 5 {
			wantPassed(t, s, 1)
			wantLeft(t, s, 4, 7-i)
			wantNow(t, s, math.MaxUint32-before+uint32(i+1))
		}
		wantPassed(t, s, 3, 3, 4, 9)
		wantLeft(t, s, 0, top-8)
		wantPassed(t, s, top-8, 0)
		wantNow(t, s, math.MaxUint32-before+top)
	}
}

// model keeps the steps since the beginning, which do not wrap, and at which of them each timer expires.
type model struct {
	start  uint32
	passed uint64
	due    map[int]uint64
}

func newModel(start uint32) *model {
	return &model{start: start, due: map[int]uint64{}}
}

func (m *model) begin(id, after int) bool {
	if id < 0 || id > 31 {
		return false
	}
	switch {
	case after < 1:
		after = 1
	case after > top:
		after = top
	}
	m.due[id] = m.passed + uint64(after)
	return true
}

func (m *model) end(id int) bool {
	_, ok := m.due[id]
	delete(m.due, id)
	return ok
}

func (m *model) left(id int) (int, bool) {
	if at, ok := m.due[id]; ok {
		return int(at - m.passed), true
	}
	return 0, false
}

func (m *model) now() uint32 {
	return uint32((uint64(m.start) + m.passed) % (1 << 32))
}

// pass takes the timer that expires next, again and again.
func (m *model) pass(n int) []int {
	switch {
	case n < 0:
		n = 0
	case n > top:
		n = top
	}
	m.passed += uint64(n)
	var expired []int
	for {
		first, found := 0, false
		for id := range 32 {
			at, ok := m.due[id]
			if ok && at <= m.passed && (!found || at < m.due[first]) {
				first, found = id, true
			}
		}
		if !found {
			return expired
		}
		expired = append(expired, first)
		delete(m.due, first)
	}
}

// same compares what a set and its model tell.
func same(t *testing.T, s *Set, m *model) {
	t.Helper()
	if got, want := s.Now(), m.now(); got != want {
		t.Fatalf("Now() = %d, want %d", got, want)
	}
	for id := -1; id <= 32; id++ {
		got, ok := s.Left(id)
		if want, running := m.left(id); got != want || ok != running {
			t.Fatalf("Left(%d) = %d, %t, want %d, %t", id, got, ok, want, running)
		}
	}
}

// act does the same with a set and its model.
func act(t *testing.T, random *rand.Rand, s *Set, m *model, most int) {
	t.Helper()
	id, n := random.Intn(34)-1, random.Intn(most)-1
	switch random.Intn(5) {
	case 0, 1:
		if got, want := s.Start(id, n), m.begin(id, n); got != want {
			t.Fatalf("Start(%d, %d) = %t, want %t", id, n, got, want)
		}
	case 2:
		if got, want := s.Stop(id), m.end(id); got != want {
			t.Fatalf("Stop(%d) = %t, want %t", id, got, want)
		}
	default:
		n = n/4 - 1
		if got, want := s.Pass(n), m.pass(n); !slices.Equal(got, want) {
			t.Fatalf("Pass(%d) = %v, want %v", n, got, want)
		}
	}
}

func TestP701RandomCalls(t *testing.T) {
	random := rand.New(rand.NewSource(701))
	for _, most := range []int{8, 40, 1000, top + 2, 1 << 33} {
		for range 20 {
			at := random.Uint32()
			s, m := New(at), newModel(at)
			for range 1000 {
				act(t, random, s, m, most)
				same(t, s, m)
			}
		}
	}
}

func TestP701AtOnceAndOneByOne(t *testing.T) {
	random := rand.New(rand.NewSource(7))
	for range 300 {
		at := math.MaxUint32 - uint32(random.Intn(60))
		whole, single := New(at), New(at)
		for range 10 {
			for range random.Intn(12) {
				id, after := random.Intn(32), random.Intn(40)
				start(t, whole, id, after)
				start(t, single, id, after)
			}
			n := random.Intn(45)
			var expired []int
			for range n {
				expired = append(expired, single.Pass(1)...)
			}
			wantPassed(t, whole, n, expired...)
			if *whole != *single {
				t.Fatalf("after %d steps at once: %v, one by one: %v", n, *whole, *single)
			}
		}
	}
}

func TestP702TwoSetsByTurns(t *testing.T) {
	random := rand.New(rand.NewSource(702))
	for _, most := range []int{30, 1000, top + 2} {
		for range 20 {
			// Equal times, so that sets that share something are not told apart by them.
			at := random.Uint32()
			sets := [2]*Set{New(at), New(at)}
			models := [2]*model{newModel(at), newModel(at)}
			for range 500 {
				i := random.Intn(2)
				act(t, random, sets[i], models[i], most)
				for k, s := range sets {
					same(t, s, models[k])
				}
			}
		}
	}
}

func TestP702NewReturnsSetsOfTheirOwn(t *testing.T) {
	a, b := New(5), New(5)
	if a == nil || b == nil || a == b {
		t.Fatalf("New: %p, %p", a, b)
	}
	start(t, a, 3, 4)
	wantAllStopped(t, b)
	stop(t, b, 3, false)
	wantPassed(t, b, 9)
	wantNow(t, a, 5)
	wantLeft(t, a, 3, 4)
	wantAllStopped(t, New(5))
	wantPassed(t, a, 4, 3)
	wantNow(t, b, 14)
}

// A copy goes on from the same time and timers, and neither sees what happens to the other one.
func TestP702ACopyIsIndependent(t *testing.T) {
	one := New(1)
	start(t, one, 3, 4)
	two := *one
	start(t, one, 5, 2)
	stop(t, &two, 3, true)
	wantLeft(t, one, 3, 4)
	wantStopped(t, &two, 5)
	wantPassed(t, one, 4, 5, 3)
	wantNow(t, &two, 1)
	wantPassed(t, &two, 4)
}

// What is done to a result is not seen in the set, in other results, or in those of another set.
func TestP702ResultsAreNewlyAllocated(t *testing.T) {
	s, other := New(0), New(0)
	for round := range 10 {
		for id := range 5 {
			start(t, s, id, 2)
			start(t, other, id, 2)
			start(t, s, 10+id, 3)
		}
		first := s.Pass(2)
		theirs := other.Pass(2)
		for i := range first {
			first[i] = -1
		}
		_ = append(first, -2, -3, -4)
		if !slices.Equal(theirs, []int{0, 1, 2, 3, 4}) {
			t.Fatalf("round %d: the other set's result became %v", round, theirs)
		}
		second := s.Pass(1)
		if !slices.Equal(second, []int{10, 11, 12, 13, 14}) {
			t.Fatalf("round %d: the second result is %v", round, second)
		}
		if !slices.Equal(first, []int{-1, -1, -1, -1, -1}) {
			t.Fatalf("round %d: the first result became %v", round, first)
		}
	}
}

func TestP702ResultsDoNotDependOnCallsAtTheSameTime(t *testing.T) {
	var joined sync.WaitGroup
	for worker := range 4 {
		joined.Go(func() {
			random := rand.New(rand.NewSource(int64(worker)))
			s, m := New(uint32(worker)), newModel(uint32(worker))
			for range 3000 {
				id, n := random.Intn(32), random.Intn(50)
				if got, want := s.Start(id, n), m.begin(id, n); got != want {
					t.Errorf("worker %d: Start(%d, %d) = %t", worker, id, n, got)
				}
				if got, want := s.Pass(n/8), m.pass(n/8); !slices.Equal(got, want) || s.Now() != m.now() {
					t.Errorf("worker %d: Pass(%d) = %v, want %v", worker, n/8, got, want)
				}
			}
		})
	}
	joined.Wait()
}
