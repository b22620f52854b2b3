package request

import (
	"math"
	"slices"
	"sync"
	"testing"

	"signalman/api"
)

var (
	commands = []int{api.MClear, api.MManual, api.MForced, api.MLock}
	states   = []int{api.LineGood, api.LineBad, api.LineFailed}
	requests = []int{api.QNone, api.QStay, api.QWait, api.QManual, api.QBad, api.QFail, api.QForced, api.QSpare, api.QLock}

	// strange holds numbers that are no command, no state and no request, some of which become one if they are cut short, turned positive, or taken modulo a power of two.
	strange = []int{
		9, 10, 11, 15, 16, 17, 19, 24, 127, 128, 130, 255, 256, 256 + 2, 256 + 3, 256 + 8, 65536, 65536 + 1, 65536 + 3,
		math.MaxInt32, math.MaxInt32 + 1, 1 << 32, 1<<32 + 1, 1<<32 + 2, 1<<32 + 3, 1<<32 + 8, 1 << 62, math.MaxInt - 1, math.MaxInt,
		-1, -2, -3, -4, -5, -6, -7, -8, -9, -15, -16, -128, -256, -255, -253, math.MinInt32, math.MinInt32 - 1, -1 << 32, -1<<32 + 2, -1<<32 + 8, math.MinInt + 1, math.MinInt + 2, math.MinInt + 8, math.MinInt,
	}
	// noCommand and noState hold also the numbers just above the greatest command and state.
	noCommand = slices.Concat([]int{4, 5, 6, 7, 8}, strange)
	noState   = slices.Concat([]int{3, 4, 5, 6, 7, 8}, strange)

	// numbers holds all requests and numbers that are none.
	numbers = slices.Concat(requests, strange)
)

// localTable holds the requests for each command, by the state of the working line (the row) and that of the spare line (the column).
var localTable = map[int][3][3]int{
	api.MClear: {
		{api.QNone, api.QNone, api.QSpare},
		{api.QBad, api.QBad, api.QSpare},
		{api.QFail, api.QFail, api.QSpare},
	},
	api.MManual: {
		{api.QManual, api.QManual, api.QSpare},
		{api.QBad, api.QBad, api.QSpare},
		{api.QFail, api.QFail, api.QSpare},
	},
	api.MForced: {
		{api.QForced, api.QForced, api.QSpare},
		{api.QForced, api.QForced, api.QSpare},
		{api.QForced, api.QForced, api.QSpare},
	},
	api.MLock: {
		{api.QLock, api.QLock, api.QLock},
		{api.QLock, api.QLock, api.QLock},
		{api.QLock, api.QLock, api.QLock},
	},
}

// asCommand and asState return what a number stands for in Local: one that is none has the same effect as the one that asks for nothing.
func asCommand(n int) int {
	if slices.Contains(commands, n) {
		return n
	}
	return api.MClear
}

func asState(n int) int {
	if slices.Contains(states, n) {
		return n
	}
	return api.LineGood
}

func wantLocal(command, work, spare int) int {
	return localTable[asCommand(command)][asState(work)][asState(spare)]
}

func wantWins(local, remote int) int {
	winner := api.QNone
	for _, q := range requests {
		if q == local || q == remote {
			winner = q
		}
	}
	return winner
}

func wantLine(q int) int {
	switch q {
	case api.QStay, api.QWait, api.QManual, api.QBad, api.QFail, api.QForced:
		return 1
	}
	return 0
}

// checkLocal calls Local with all arguments of the given ones.
func checkLocal(t *testing.T, commands, works, spares []int) {
	t.Helper()
	for _, command := range commands {
		for _, work := range works {
			for _, spare := range spares {
				if got, want := Local(command, work, spare), wantLocal(command, work, spare); got != want {
					t.Errorf("Local(%d, %d, %d) = %d, want %d", command, work, spare, got, want)
				}
			}
		}
	}
}

func TestP1601LocalOfEveryCommandAndState(t *testing.T) {
	checkLocal(t, commands, states, states)
}

func TestP1601LocalWithoutAValidCommand(t *testing.T) {
	checkLocal(t, noCommand, states, states)
}

func TestP1601LocalWithoutAValidState(t *testing.T) {
	checkLocal(t, commands, noState, states)
	checkLocal(t, commands, states, noState)
}

func TestP1601LocalWithoutAValidArgument(t *testing.T) {
	checkLocal(t, commands, noState, noState)
	checkLocal(t, noCommand, noState, states)
	checkLocal(t, noCommand, states, noState)
	checkLocal(t, noCommand, noState, noState)
}

// ladder holds, from the first line of the document's list on, what brings each request about and nothing else.
var ladder = []struct{ command, work, spare, want int }{
	{api.MLock, api.LineGood, api.LineGood, api.QLock},
	{api.MClear, api.LineGood, api.LineFailed, api.QSpare},
	{api.MForced, api.LineGood, api.LineGood, api.QForced},
	{api.MClear, api.LineFailed, api.LineGood, api.QFail},
	{api.MClear, api.LineBad, api.LineGood, api.QBad},
	{api.MManual, api.LineGood, api.LineGood, api.QManual},
	{api.MClear, api.LineGood, api.LineGood, api.QNone},
}

func TestP1601LocalOfASingleReason(t *testing.T) {
	for _, c := range ladder {
		if got := Local(c.command, c.work, c.spare); got != c.want {
			t.Errorf("Local(%d, %d, %d) = %d, want %d", c.command, c.work, c.spare, got, c.want)
		}
	}
}

// both returns the argument that holds what a and b ask for, and false if one argument cannot be both. A zero asks for nothing.
func both(a, b int) (int, bool) {
	if a != 0 && b != 0 {
		return 0, false
	}
	return a + b, true
}

func TestP1601LocalGivesWayToTheFirst(t *testing.T) {
	pairs := 0
	for i, first := range ladder {
		for _, later := range ladder[i+1:] {
			command, ok1 := both(first.command, later.command)
			work, ok2 := both(first.work, later.work)
			spare, ok3 := both(first.spare, later.spare)
			if !ok1 || !ok2 || !ok3 {
				continue
			}
			pairs++
			if got := Local(command, work, spare); got != first.want {
				t.Errorf("Local(%d, %d, %d) = %d, want %d, to which %d gives way", command, work, spare, got, first.want, later.want)
			}
		}
	}
	// Of the 21 pairs, three need two commands and one needs two states of the working line.
	if pairs != 17 {
		t.Errorf("%d pairs were compared, want 17", pairs)
	}
}

func TestP1601LocalIsTheMostUrgentReason(t *testing.T) {
	for _, command := range commands {
		for _, work := range states {
			for _, spare := range states {
				most := max(wantLocal(command, 0, 0), wantLocal(0, work, 0), wantLocal(0, 0, spare))
				if got := Local(command, work, spare); got != most {
					t.Errorf("Local(%d, %d, %d) = %d, want %d", command, work, spare, got, most)
				}
			}
		}
	}
}

func TestP1601LocalIgnoresADegradedSpareLine(t *testing.T) {
	for _, command := range slices.Concat(commands, noCommand) {
		for _, work := range slices.Concat(states, noState) {
			if bad, good := Local(command, work, api.LineBad), Local(command, work, api.LineGood); bad != good {
				t.Errorf("Local(%d, %d, spare) = %d if the spare line is bad, %d if it is good", command, work, bad, good)
			}
		}
	}
}

func TestP1601WinsOfAllRequests(t *testing.T) {
	for i, less := range requests {
		if got := Wins(less, less); got != less {
			t.Errorf("Wins(%d, %d) = %d", less, less, got)
		}
		for _, greater := range requests[i+1:] {
			if got := Wins(less, greater); got != greater {
				t.Errorf("Wins(%d, %d) = %d, want %d", less, greater, got, greater)
			}
			if got := Wins(greater, less); got != greater {
				t.Errorf("Wins(%d, %d) = %d, want %d", greater, less, got, greater)
			}
		}
	}
}

func TestP1601WinsOverWhatIsNoRequest(t *testing.T) {
	for _, q := range requests {
		for _, n := range strange {
			if got := Wins(q, n); got != q {
				t.Errorf("Wins(%d, %d) = %d, want %d", q, n, got, q)
			}
			if got := Wins(n, q); got != q {
				t.Errorf("Wins(%d, %d) = %d, want %d", n, q, got, q)
			}
		}
	}
}

func TestP1601WinsOfNoRequests(t *testing.T) {
	for _, a := range strange {
		for _, b := range strange {
			if got := Wins(a, b); got != api.QNone {
				t.Errorf("Wins(%d, %d) = %d, want QNone", a, b, got)
			}
		}
	}
}

func TestP1601WinsAtTheEndsOfTheRequests(t *testing.T) {
	for _, c := range []struct{ local, remote, want int }{
		{api.QLock, api.QLock + 1, api.QLock}, {api.QLock + 1, api.QLock, api.QLock}, {api.QLock + 1, api.QNone, api.QNone},
		{api.QNone - 1, api.QNone, api.QNone}, {api.QNone, api.QNone - 1, api.QNone}, {api.QNone - 1, api.QLock + 1, api.QNone},
		{api.QNone - 1, api.QStay, api.QStay}, {api.QLock + 1, api.QStay, api.QStay}, {math.MaxInt, math.MinInt, api.QNone},
	} {
		if got := Wins(c.local, c.remote); got != c.want {
			t.Errorf("Wins(%d, %d) = %d, want %d", c.local, c.remote, got, c.want)
		}
	}
}

func TestP1601LineOfEveryRequest(t *testing.T) {
	want := []int{0, 1, 1, 1, 1, 1, 1, 0, 0}
	for i, q := range requests {
		if got := Line(q); got != want[i] {
			t.Errorf("Line(%d) = %d, want %d", q, got, want[i])
		}
	}
}

func TestP1601LineAtTheEndsOfTheRange(t *testing.T) {
	for _, c := range []struct{ q, want int }{
		{api.QStay - 1, 0}, {api.QStay, 1}, {api.QForced, 1}, {api.QForced + 1, 0},
	} {
		if got := Line(c.q); got != c.want {
			t.Errorf("Line(%d) = %d, want %d", c.q, got, c.want)
		}
	}
}

func TestP1601LineOfNoRequest(t *testing.T) {
	for _, n := range strange {
		if got := Line(n); got != 0 {
			t.Errorf("Line(%d) = %d, want 0", n, got)
		}
	}
}

func TestP1601Example(t *testing.T) {
	if got := Line(api.QFail); got != 1 {
		t.Errorf("Line(QFail) = %d, want 1", got)
	}
}

func TestP1602WinsIsCommutative(t *testing.T) {
	for _, a := range numbers {
		for _, b := range numbers {
			if one, other := Wins(a, b), Wins(b, a); one != other {
				t.Errorf("Wins(%d, %d) = %d, but Wins(%d, %d) = %d", a, b, one, b, a, other)
			}
		}
	}
}

func TestP1602BothStationsSelectTheSameLine(t *testing.T) {
	// Each station sees the lines in its own way, and tells the other one its request.
	var own []int
	for _, command := range commands {
		for _, work := range states {
			for _, spare := range states {
				own = append(own, Local(command, work, spare))
			}
		}
	}
	own = append(own, api.QStay, api.QWait)
	for _, here := range own {
		for _, there := range own {
			want := wantLine(max(here, there))
			if one, other := Line(Wins(here, there)), Line(Wins(there, here)); one != want || other != want {
				t.Errorf("requests %d and %d: lines %d and %d, want %d", here, there, one, other, want)
			}
		}
	}
}

type answers struct{ local, wins, line int }

func ask(a, b, c int) answers {
	return answers{Local(a, b, c), Wins(b, c), Line(c)}
}

// forward and backward go through all triples, so that each call follows different ones.
func forward(visit func(a, b, c int)) {
	for _, a := range numbers {
		for _, b := range numbers {
			for _, c := range numbers {
				visit(a, b, c)
			}
		}
	}
}

func backward(visit func(a, b, c int)) {
	for i := len(numbers) - 1; i >= 0; i-- {
		for j := len(numbers) - 1; j >= 0; j-- {
			for k := len(numbers) - 1; k >= 0; k-- {
				visit(numbers[k], numbers[i], numbers[j])
			}
		}
	}
}

func TestP102ResultsDoNotDependOnEarlierCalls(t *testing.T) {
	first := map[[3]int]answers{}
	forward(func(a, b, c int) { first[[3]int{a, b, c}] = ask(a, b, c) })
	check := func(a, b, c int) {
		if got, want := ask(a, b, c), first[[3]int{a, b, c}]; got != want {
			t.Errorf("%d, %d, %d: %v, but %v at first", a, b, c, got, want)
		}
	}
	backward(check)
	forward(check)
	backward(check)
}

func TestP102ResultsDoNotDependOnCallsAtTheSameTime(t *testing.T) {
	var joined sync.WaitGroup
	for worker := range 4 {
		joined.Go(func() {
			walk := forward
			if worker%2 == 1 {
				walk = backward
			}
			walk(func(a, b, c int) {
				if got, want := ask(a, b, c), (answers{wantLocal(a, b, c), wantWins(b, c), wantLine(c)}); got != want {
					t.Errorf("%d, %d, %d: %v, want %v", a, b, c, got, want)
				}
			})
		})
	}
	joined.Wait()
}
