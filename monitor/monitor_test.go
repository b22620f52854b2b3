package monitor

import (
	"math"
	"math/rand"
	"strings"
	"sync"
	"testing"

	"signalman/api"
	"signalman/tally"
)

const top = 1 << 30

// thresholds holds for each number given to New as bad or good how many events are enough.
var thresholds = []struct{ given, events int }{
	{1, 1}, {2, 2}, {3, 3}, {4, 4}, {7, 7}, {8, 8}, {15, 15}, {16, 16},
	{0, 1}, {-1, 1}, {-2, 1}, {-16, 1}, {-top, 1}, {math.MinInt32, 1}, {math.MinInt + 1, 1}, {math.MinInt, 1},
	{17, 16}, {18, 16}, {32, 16}, {1000, 16}, {math.MaxInt32, 16}, {1 << 32, 16}, {1<<32 + 1, 16}, {math.MaxInt - 1, 16}, {math.MaxInt, 16},
}

// silences holds for each number given to New as silent how many steps are enough.
var silences = []struct{ given, steps int }{
	{1, 1}, {2, 2}, {3, 3}, {16, 16}, {17, 17}, {1000, 1000}, {65536, 65536},
	{0, 1}, {-1, 1}, {-2, 1}, {-top, 1}, {math.MinInt32, 1}, {math.MinInt + 1, 1}, {math.MinInt, 1},
	{top - 1, top - 1}, {top, top}, {top + 1, top}, {top + 2, top}, {2 * top, top}, {math.MaxInt32, top}, {1 << 32, top}, {math.MaxInt - 1, top}, {math.MaxInt, top},
}

// passes holds for each number given to Pass how many steps pass.
var passes = []struct{ n, steps int }{
	{0, 0}, {1, 1}, {2, 2}, {7, 7}, {1000, 1000}, {65536, 65536},
	{-1, 0}, {-2, 0}, {-top, 0}, {math.MinInt32, 0}, {math.MinInt + 1, 0}, {math.MinInt, 0},
	{top - 1, top - 1}, {top, top}, {top + 1, top}, {top + 2, top}, {2 * top, top}, {math.MaxInt32, top}, {1 << 32, top}, {math.MaxInt - 1, top}, {math.MaxInt, top},
}

// letter returns a letter for a state of a line.
func letter(state int) string {
	switch state {
	case api.LineGood:
		return "G"
	case api.LineBad:
		return "B"
	case api.LineFailed:
		return "F"
	}
	return "?"
}

// do lets one thing happen: 1 is a good event, 0 a bad one, and p a step without events.
func do(m *Monitor, what rune) int {
	switch what {
	case '1':
		return m.Note(true)
	case '0':
		return m.Note(false)
	}
	return m.Pass(1)
}

// play checks the state after each of the things that happen. A hyphen in what happens or in what is wanted only sets apart.
func play(t *testing.T, m *Monitor, happens, want string) {
	t.Helper()
	happens, want = strings.ReplaceAll(happens, "-", ""), strings.ReplaceAll(want, "-", "")
	got := ""
	for i, what := range happens {
		state := do(m, what)
		got += letter(state)
		for range 2 {
			if again := m.State(); again != state {
				t.Errorf("%s: State() = %d after %d was returned at %d", happens, again, state, i)
			}
		}
	}
	if got != want {
		t.Errorf("%s: the states are %s, want %s", happens, got, want)
	}
}

func wantState(t *testing.T, m *Monitor, want int) {
	t.Helper()
	if got := m.State(); got != want {
		t.Errorf("State() = %d, want %d", got, want)
	}
}

func wantSum(t *testing.T, m *Monitor, good, bad int) {
	t.Helper()
	for range 2 {
		g, b, ok := tally.Parts(m.Sum())
		if g != good || b != bad || !ok {
			t.Errorf("Sum() = %v, want %d good and %d bad events", m.Sum(), good, bad)
		}
	}
}

func pass(t *testing.T, m *Monitor, n, want int) {
	t.Helper()
	if got := m.Pass(n); got != want {
		t.Errorf("Pass(%d) = %d, want %d", n, got, want)
	}
	wantState(t, m, want)
}

func TestP901TheExample(t *testing.T) {
	wantState(t, New(4, 3, 5), api.LineGood)
}

func TestP901ANewMonitor(t *testing.T) {
	for _, bad := range thresholds {
		for _, good := range thresholds {
			for _, silent := range silences {
				m := New(bad.given, good.given, silent.given)
				wantState(t, m, api.LineGood)
				wantSum(t, m, 0, 0)
				pass(t, m, 0, api.LineGood)
				wantSum(t, m, 0, 0)
			}
		}
	}
}

// After one bad event fewer the line has not failed yet, and after half of them it is bad.
func TestP901BadIsLimited(t *testing.T) {
	for _, bad := range thresholds {
		half := (bad.events + 1) / 2
		m := New(bad.given, 16, 5)
		for i := 1; i <= 40; i++ {
			want := api.LineGood
			switch {
			case i >= bad.events:
				want = api.LineFailed
			case i >= half:
				want = api.LineBad
			}
			if got := m.Note(false); got != want {
				t.Errorf("New(%d, 16, 5): the state after %d bad events is %d, want %d", bad.given, i, got, want)
			}
			wantState(t, m, want)
			wantSum(t, m, 0, min(i, 16))
		}
	}
}

// After one good event fewer the line is not good yet, whether it was bad or failed, by events or by silence.
func TestP901GoodIsLimited(t *testing.T) {
	for _, good := range thresholds {
		for _, c := range []struct {
			happens string
			state   int
			bad     int
		}{
			{"00", api.LineBad, 2}, {"000", api.LineBad, 3}, {"0000", api.LineFailed, 4}, {"00000", api.LineFailed, 5},
			{"ppppp", api.LineFailed, 0}, {"0ppppp", api.LineFailed, 1}, {"00ppppp", api.LineFailed, 2}, {"0000ppppp", api.LineFailed, 4},
		} {
			m := New(4, good.given, 5)
			for _, what := range c.happens {
				do(m, what)
			}
			wantState(t, m, c.state)
			for i := 1; i < good.events; i++ {
				if got := m.Note(true); got != c.state {
					t.Errorf("New(4, %d, 5): %s: the state after %d good events is %d, want %d", good.given, c.happens, i, got, c.state)
				}
				wantState(t, m, c.state)
				wantSum(t, m, i, min(c.bad, 16-i))
			}
			if got := m.Note(true); got != api.LineGood {
				t.Errorf("New(4, %d, 5): %s: the state after %d good events is %d", good.given, c.happens, good.events, got)
			}
			wantState(t, m, api.LineGood)
			wantSum(t, m, 0, 0)
		}
	}
}

func TestP901SilentIsLimited(t *testing.T) {
	for _, silent := range silences {
		whole := New(4, 3, silent.given)
		pass(t, whole, silent.steps, api.LineFailed)
		parts := New(4, 3, silent.given)
		pass(t, parts, silent.steps-1, api.LineGood)
		pass(t, parts, 0, api.LineGood)
		pass(t, parts, -1, api.LineGood)
		pass(t, parts, 1, api.LineFailed)
	}
}

func TestP901TheStepsOfPassAreLimited(t *testing.T) {
	for _, silent := range silences {
		for _, p := range passes {
			m := New(4, 3, silent.given)
			want := api.LineGood
			if p.steps >= silent.steps {
				want = api.LineFailed
			}
			pass(t, m, p.n, want)
			wantSum(t, m, 0, 0)
			if want == api.LineGood {
				pass(t, m, silent.steps-p.steps-1, api.LineGood)
				pass(t, m, 1, api.LineFailed)
			}
		}
	}
}

func TestP901EventsFromAGoodLine(t *testing.T) {
	for _, c := range []struct {
		bad, good     int
		happens, want string
	}{
		{4, 3, "1", "G"}, {4, 3, "0", "G"}, {4, 3, "11111", "GGGGG"}, {4, 3, "10101", "GGGBB"}, {4, 1, "11111", "GGGGG"},
		// Half of an odd number is rounded up.
		{1, 3, "0", "F"}, {2, 3, "00", "BF"}, {3, 3, "000", "GBF"}, {4, 3, "0000", "GBBF"}, {5, 3, "00000", "GGBBF"}, {6, 3, "000000", "GGBBBF"}, {7, 3, "0000000", "GGGBBBF"},
		{15, 3, "000000000000000", "GGGGGGGBBBBBBBF"}, {16, 3, "0000000000000000", "GGGGGGGBBBBBBBBF"},
		// Good events between the bad ones change nothing, while they are too few.
		{4, 3, "0101010101", "GGBBBBFFFF"}, {3, 16, "1010110", "GGGBBBF"}, {5, 3, "0110110110110", "GGGGGGBBBBBBF"}, {5, 16, "0111011101", "GGGGGGGGBB"},
	} {
		play(t, New(c.bad, c.good, 9), c.happens, c.want)
	}
}

func TestP901EventsFromABadLine(t *testing.T) {
	for _, c := range []struct {
		bad, good     int
		happens, want string
	}{
		{4, 3, "00-1", "GB-B"}, {4, 3, "00-11", "GB-BB"}, {4, 3, "00-111", "GB-BBG"}, {4, 1, "00-1", "GB-G"}, {4, 2, "00-11", "GB-BG"},
		{4, 3, "00-0", "GB-B"}, {4, 3, "00-00", "GB-BF"}, {4, 3, "00-1-0-1-0", "GB-B-B-B-F"},
		// A bad event between the good ones: they are counted from the beginning.
		{6, 3, "000-11-0-11", "GGB-BB-B-BB"}, {6, 3, "000-11-0-111", "GGB-BB-B-BBG"}, {6, 3, "000-1-0-1-0-1", "GGB-B-B-B-B-B"},
		{4, 3, "00-111-0-0", "GB-BBG-G-B"}, {4, 3, "00-111-000-0", "GB-BBG-GBB-F"},
	} {
		play(t, New(c.bad, c.good, 9), c.happens, c.want)
	}
}

func TestP901EventsFromAFailedLine(t *testing.T) {
	for _, c := range []struct {
		bad, good     int
		happens, want string
	}{
		{4, 3, "0000-1", "GBBF-F"}, {4, 3, "0000-11", "GBBF-FF"}, {4, 3, "0000-111", "GBBF-FFG"}, {4, 1, "0000-1", "GBBF-G"}, {1, 1, "0-1-0-1", "F-G-F-G"}, {1, 2, "0-1-0-11-0", "F-F-F-FG-F"},
		{4, 3, "0000-0", "GBBF-F"}, {4, 3, "0000-00000", "GBBF-FFFFF"},
		{4, 3, "0000-11-0-11", "GBBF-FF-F-FF"}, {4, 3, "0000-11-0-111", "GBBF-FF-F-FFG"}, {4, 3, "0000-1-0-1-0-1", "GBBF-F-F-F-F-F"},
		{4, 3, "0000-111-0-0-0-0", "GBBF-FFG-G-B-B-F"}, {4, 3, "0000-111-111-0", "GBBF-FFG-GGG-G"},
		// A line that failed by silence does not become bad, but stays failed.
		{4, 3, "ppppppppp-0", "GGGGGGGGF-F"}, {4, 3, "ppppppppp-00", "GGGGGGGGF-FF"}, {4, 3, "ppppppppp-00-111", "GGGGGGGGF-FF-FFG"}, {4, 3, "ppppppppp-1-0", "GGGGGGGGF-F-F"},
	} {
		play(t, New(c.bad, c.good, 9), c.happens, c.want)
	}
}

// An event that has left the window is not counted, neither for a good nor for a bad line.
func TestP901EventsLeaveTheWindow(t *testing.T) {
	for _, c := range []struct {
		happens   string
		state     int
		good, bad int
	}{
		{"0" + ones(14) + "0", api.LineBad, 14, 2}, {"0" + ones(15) + "0", api.LineGood, 15, 1}, {"0" + ones(16) + "0", api.LineGood, 15, 1},
		{"000" + ones(12) + "0", api.LineFailed, 12, 4}, {"000" + ones(13) + "0", api.LineBad, 13, 3}, {"000" + ones(14) + "0", api.LineBad, 14, 2}, {"000" + ones(15) + "0", api.LineBad, 15, 1},
		{"000" + ones(13) + "00", api.LineBad, 13, 3}, {"000" + ones(13) + "0000", api.LineFailed, 12, 4},
		{ones(1) + "000" + ones(12) + "0", api.LineFailed, 12, 4}, {ones(9) + "000" + ones(12) + "0", api.LineFailed, 12, 4}, {ones(16) + "000" + ones(13) + "0", api.LineBad, 13, 3},
		{ones(40), api.LineGood, 16, 0}, {ones(40) + "0", api.LineGood, 15, 1}, {ones(40) + "00", api.LineBad, 14, 2},
	} {
		m := New(4, 16, 9)
		for _, what := range c.happens {
			do(m, what)
		}
		if got := m.State(); got != c.state {
			t.Errorf("%s: the state is %d, want %d", c.happens, got, c.state)
		}
		wantSum(t, m, c.good, c.bad)
	}
}

func ones(n int) string {
	return strings.Repeat("1", n)
}

// The state of a line does not become better because bad events leave the window.
func TestP901BadEventsThatLeaveDoNotMend(t *testing.T) {
	bad := New(4, 16, 9)
	play(t, bad, "00-"+ones(15), "GB-"+strings.Repeat("B", 15))
	wantSum(t, bad, 15, 1)
	play(t, bad, "0-"+ones(15), "B-"+strings.Repeat("B", 15))
	wantSum(t, bad, 15, 1)
	play(t, bad, "1", "G")
	wantSum(t, bad, 0, 0)

	failed := New(4, 16, 9)
	play(t, failed, "0000-"+ones(15), "GBBF-"+strings.Repeat("F", 15))
	wantSum(t, failed, 15, 1)
	play(t, failed, "0-"+ones(15), "F-"+strings.Repeat("F", 15))
	wantSum(t, failed, 15, 1)
	play(t, failed, "1", "G")
	wantSum(t, failed, 0, 0)
}

// The window is cleared when the line becomes good again, and at no other time.
func TestP901WhenTheWindowIsCleared(t *testing.T) {
	m := New(4, 3, 5)
	for _, c := range []struct {
		happens, want string
		good, bad     int
	}{
		// A line that is good already.
		{"1", "G", 1, 0}, {"1", "G", 2, 0}, {"1", "G", 3, 0}, {"1", "G", 4, 0}, {"0", "G", 4, 1}, {"11", "GG", 6, 1}, {"1", "G", 7, 1},
		{"0", "B", 7, 2}, {"11", "BB", 9, 2}, {"0", "B", 9, 3}, {"11", "BB", 11, 3}, {"1", "G", 0, 0},
		// The event that made the line good is gone too.
		{"1", "G", 1, 0}, {"0", "G", 1, 1}, {"0", "B", 1, 2}, {"0", "B", 1, 3}, {"0", "F", 1, 4}, {"0", "F", 1, 5}, {"11", "FF", 3, 5}, {"1", "G", 0, 0},
		{"000", "GBB", 0, 3}, {"pppp", "BBBB", 0, 3}, {"p", "F", 0, 3}, {"ppp", "FFF", 0, 3}, {"1", "F", 1, 3}, {"0", "F", 1, 4}, {"11", "FF", 3, 4}, {"1", "G", 0, 0},
		{"pppp", "GGGG", 0, 0}, {"1", "G", 1, 0}, {"ppppp", "GGGGF", 1, 0}, {"11", "FF", 3, 0}, {"1", "G", 0, 0}, {"111", "GGG", 3, 0},
	} {
		play(t, m, c.happens, c.want)
		wantSum(t, m, c.good, c.bad)
	}
}

func TestP901WhichRuleComesFirst(t *testing.T) {
	// Enough good events, and enough bad ones to fail.
	m := New(4, 3, 5)
	play(t, m, "00000-11-1", "GBBFF-FF-G")
	wantSum(t, m, 0, 0)
	// Enough good events, and half of the bad ones.
	m = New(4, 3, 5)
	play(t, m, "000-11-1", "GBB-BB-G")
	wantSum(t, m, 0, 0)
	// Enough bad events to fail, which are enough for a bad line too.
	m = New(1, 3, 5)
	play(t, m, "0", "F")
	wantSum(t, m, 0, 1)
	// As many good events as bad ones, and both enough.
	m = New(16, 1, 5)
	for range 3 {
		play(t, m, strings.Repeat("0", 16), "GGGGGGGBBBBBBBBF")
		wantSum(t, m, 0, 16)
		play(t, m, "1", "G")
		wantSum(t, m, 0, 0)
	}
}

func TestP901Silence(t *testing.T) {
	for _, c := range []struct{ happens, want string }{
		{"pppp", "GGGG"}, {"ppppp", "GGGGF"}, {"pppppppp", "GGGGFFFF"},
		{"00-pppp", "GB-BBBB"}, {"00-ppppp", "GB-BBBBF"}, {"0000-pppppp", "GBBF-FFFFFF"},
		// An event ends a silence, of whichever kind it is.
		{"pppp-1-pppp-0-pppp", "GGGG-G-GGGG-G-GGGG"}, {"pppp-1-ppppp", "GGGG-G-GGGGF"}, {"pppp-0-ppppp", "GGGG-G-GGGGF"},
		{"ppppp-1-pppp-11-ppppp", "GGGGF-F-FFFF-FG-GGGGF"}, {"ppppp-111-pppp", "GGGGF-FFG-GGGG"}, {"ppppp-0-pppp-111-pppp-p", "GGGGF-F-FFFF-FFG-GGGG-F"},
		// A silence that is too short does not end a run of good events, and one that is long enough does.
		{"ppppp-11-pppp-1", "GGGGF-FF-FFFF-G"}, {"ppppp-1-pppp-1-pppp-1", "GGGGF-F-FFFF-F-FFFF-G"}, {"ppppp-11-ppppp-1", "GGGGF-FF-FFFFF-F"}, {"ppppp-11-ppppp-111", "GGGGF-FF-FFFFF-FFG"},
		{"00-11-pppp-1", "GB-BB-BBBB-G"}, {"00-11-ppppp-1", "GB-BB-BBBBF-F"}, {"00-11-ppppp-111", "GB-BB-BBBBF-FFG"},
		{"0000-11-pppp-1", "GBBF-FF-FFFF-G"}, {"0000-11-ppppp-11", "GBBF-FF-FFFFF-FF"}, {"0000-11-pppppp-111", "GBBF-FF-FFFFFF-FFG"},
		{"11111-ppppp-1", "GGGGG-GGGGF-F"}, {"11111-ppppp-111", "GGGGG-GGGGF-FFG"},
	} {
		play(t, New(4, 3, 5), c.happens, c.want)
	}
}

// A silence is as long in one Pass as in several.
func TestP901SilenceInOnePassAndInSeveral(t *testing.T) {
	for _, silent := range []int{1, 2, 3, 10, 1000, top - 1, top} {
		for first := range min(silent, 12) {
			m := New(4, 3, silent)
			pass(t, m, first, api.LineGood)
			pass(t, m, silent-first-1, api.LineGood)
			pass(t, m, 1, api.LineFailed)
			m = New(4, 3, silent)
			pass(t, m, first, api.LineGood)
			pass(t, m, silent-first, api.LineFailed)
			m = New(4, 3, silent)
			pass(t, m, silent-first-1, api.LineGood)
			pass(t, m, first+1, api.LineFailed)
			m = New(4, 3, silent)
			pass(t, m, first, api.LineGood)
			pass(t, m, math.MaxInt, api.LineFailed)
		}
	}
}

// When no step passes, a silence neither grows nor ends.
func TestP901NoStepPasses(t *testing.T) {
	for _, none := range []int{0, -1, -5, -top, math.MinInt} {
		m := New(4, 3, 5)
		play(t, m, "pppp", "GGGG")
		pass(t, m, none, api.LineGood)
		play(t, m, "p", "F")
		// Behind a silence that was long enough.
		pass(t, m, none, api.LineFailed)
		pass(t, m, none, api.LineFailed)
		play(t, m, "11", "FF")
		// Behind an event, which ended the silence: the run of good events goes on.
		pass(t, m, none, api.LineFailed)
		play(t, m, "1", "G")
		pass(t, m, none, api.LineGood)
		play(t, m, "00", "GB")
		pass(t, m, none, api.LineBad)
		wantSum(t, m, 0, 2)
		play(t, m, "pppp", "BBBB")
		pass(t, m, none, api.LineBad)
		play(t, m, "11", "BB")
		pass(t, m, none, api.LineBad)
		play(t, m, "1", "G")
		wantSum(t, m, 0, 0)
	}
}

func TestP901ASilenceDoesNotGrowBeyondTheLongest(t *testing.T) {
	for _, n := range []int{top - 1, top, top + 1, math.MaxInt32, math.MaxInt} {
		m := New(4, 2, math.MaxInt)
		for i := range 10 {
			want := api.LineFailed
			if i == 0 && n < top {
				want = api.LineGood
			}
			pass(t, m, n, want)
			if m.silence > top {
				t.Fatalf("the silence is %d after %d times %d steps", m.silence, i+1, n)
			}
		}
		pass(t, m, 0, api.LineFailed)
		play(t, m, "1", "F")
		pass(t, m, top-1, api.LineFailed)
		play(t, m, "1", "G")
		pass(t, m, top-1, api.LineGood)
		pass(t, m, 0, api.LineGood)
		pass(t, m, 1, api.LineFailed)
		wantSum(t, m, 0, 0)
	}
}

func TestP901SumAfterSteps(t *testing.T) {
	m := New(16, 16, 3)
	for i := 1; i <= 5; i++ {
		m.Note(true)
		pass(t, m, 1, api.LineGood)
		wantSum(t, m, i, 0)
	}
	m.Note(false)
	wantSum(t, m, 5, 1)
	pass(t, m, top, api.LineFailed)
	wantSum(t, m, 5, 1)
	m.Note(false)
	wantSum(t, m, 5, 2)
}

// A run of good events that is longer than the window is counted on.
func TestP901ALongRun(t *testing.T) {
	m := New(2, 16, 5)
	for i := range 100000 {
		if got := m.Note(true); got != api.LineGood {
			t.Fatalf("the state after %d good events is %d", i+1, got)
		}
	}
	wantSum(t, m, 16, 0)
	play(t, m, "0-0-"+ones(15)+"-1", "B-F-"+strings.Repeat("F", 15)+"-G")
}

// model keeps all events since the window was cleared, and counts them anew each time.
type model struct {
	bad, good, silent int
	state             int
	events            []bool
	run, silence      int64
}

func newModel(bad, good, silent int) *model {
	return &model{bad: within(bad, 1, 16), good: within(good, 1, 16), silent: within(silent, 1, top), state: api.LineGood}
}

func within(n, low, high int) int {
	if n < low {
		return low
	}
	if n > high {
		return high
	}
	return n
}

func (m *model) counts() (good, bad int) {
	for i := len(m.events) - 1; i >= 0 && i >= len(m.events)-16; i-- {
		if m.events[i] {
			good++
		} else {
			bad++
		}
	}
	return good, bad
}

func (m *model) note(ok bool) int {
	m.events = append(m.events, ok)
	m.silence = 0
	if !ok {
		m.run = -1
	}
	m.run++
	_, bad := m.counts()
	half := m.bad/2 + m.bad%2
	if m.run >= int64(m.good) && (m.state == api.LineFailed || m.state == api.LineBad) {
		m.events = nil
		m.state = api.LineGood
	} else if bad >= m.bad {
		m.state = api.LineFailed
	} else if bad >= half && m.state == api.LineGood {
		m.state = api.LineBad
	}
	return m.state
}

func (m *model) pass(n int) int {
	m.silence += int64(within(n, 0, top))
	if m.silence > top {
		m.silence = top
	}
	if m.silence >= int64(m.silent) {
		m.state = api.LineFailed
		m.run = 0
	}
	return m.state
}

// same compares what a monitor and its model tell.
func same(t *testing.T, m *Monitor, want *model) {
	t.Helper()
	if got := m.State(); got != want.state {
		t.Fatalf("State() = %d, want %d", got, want.state)
	}
	good, bad := want.counts()
	if got := m.Sum(); got != complex(float64(good), float64(bad)) {
		t.Fatalf("Sum() = %v, want %d good and %d bad events", got, good, bad)
	}
}

// note and steps do the same with a monitor and its model.
func note(t *testing.T, m *Monitor, want *model, ok bool) {
	t.Helper()
	if got, state := m.Note(ok), want.note(ok); got != state {
		t.Fatalf("Note(%t) = %d, want %d", ok, got, state)
	}
	same(t, m, want)
}

func steps(t *testing.T, m *Monitor, want *model, n int) {
	t.Helper()
	if got, state := m.Pass(n), want.pass(n); got != state {
		t.Fatalf("Pass(%d) = %d, want %d", n, got, state)
	}
	same(t, m, want)
}

// act does something by chance: most events are of one kind for a while, so that runs of either kind become long.
func act(t *testing.T, random *rand.Rand, m *Monitor, want *model, good float64) {
	t.Helper()
	switch random.Intn(8) {
	case 0:
		n := random.Intn(4) - 1
		switch random.Intn(12) {
		case 0:
			n = want.silent
		case 1:
			n = want.silent - 1
		}
		steps(t, m, want, n)
	default:
		note(t, m, want, random.Float64() < good)
	}
}

func TestP901RandomCalls(t *testing.T) {
	random := rand.New(rand.NewSource(901))
	for bad := -1; bad <= 18; bad++ {
		for good := -1; good <= 18; good++ {
			silent := []int{-1, 0, 1, 2, 3, 5, 9, 100, top - 1, top, top + 1, math.MaxInt}[random.Intn(12)]
			m, want := New(bad, good, silent), newModel(bad, good, silent)
			for range 40 {
				share := []float64{0.02, 0.3, 0.5, 0.8, 0.95, 1}[random.Intn(6)]
				for range 1 + random.Intn(30) {
					act(t, random, m, want, share)
				}
			}
		}
	}
}

// All sequences of a good event, a bad one and a step, for small parameters.
func TestP901AllShortSequences(t *testing.T) {
	const length, sequences = 8, 6561
	for bad := 1; bad <= 5; bad++ {
		for good := 1; good <= 3; good++ {
			for silent := 1; silent <= 3; silent++ {
				for number := range sequences {
					m, want := New(bad, good, silent), newModel(bad, good, silent)
					for i, rest := 0, number; i < length; i, rest = i+1, rest/3 {
						if rest%3 == 2 {
							steps(t, m, want, 1)
						} else {
							note(t, m, want, rest%3 == 1)
						}
					}
				}
			}
		}
	}
}

// All sequences of events that are as long as the window, and some more behind them.
func TestP901AllWindows(t *testing.T) {
	for _, c := range []struct{ bad, good int }{{8, 16}, {5, 9}, {16, 16}} {
		for events := range 1 << 16 {
			m := New(c.bad, c.good, 5)
			want := newModel(c.bad, c.good, 5)
			for i := range 20 {
				ok := events>>(i%16)&1 == 1
				if got, state := m.Note(ok), want.note(ok); got != state {
					t.Fatalf("New(%d, %d, 5): events %b: the state after %d is %d, want %d", c.bad, c.good, events, i+1, got, state)
				}
			}
			same(t, m, want)
		}
	}
}

func TestP902TwoMonitorsByTurns(t *testing.T) {
	random := rand.New(rand.NewSource(902))
	for range 200 {
		// Equal parameters, so that monitors that share something are not told apart by them.
		bad, good, silent := 1+random.Intn(16), 1+random.Intn(16), 1+random.Intn(5)
		monitors := [2]*Monitor{New(bad, good, silent), New(bad, good, silent)}
		models := [2]*model{newModel(bad, good, silent), newModel(bad, good, silent)}
		for range 300 {
			i := random.Intn(2)
			act(t, random, monitors[i], models[i], []float64{0.2, 0.9}[i])
			for k, m := range monitors {
				same(t, m, models[k])
			}
		}
	}
}

func TestP902MonitorsWithOtherParameters(t *testing.T) {
	random := rand.New(rand.NewSource(9))
	var monitors []*Monitor
	var models []*model
	for bad := 1; bad <= 16; bad++ {
		good, silent := 17-bad, 1+bad%3
		monitors, models = append(monitors, New(bad, good, silent)), append(models, newModel(bad, good, silent))
	}
	for range 20000 {
		i := random.Intn(len(monitors))
		act(t, random, monitors[i], models[i], 0.6)
	}
	for i, m := range monitors {
		same(t, m, models[i])
	}
}

func TestP902NewReturnsMonitorsOfTheirOwn(t *testing.T) {
	a, b := New(4, 3, 5), New(4, 3, 5)
	if a == nil || b == nil || a == b {
		t.Fatalf("New: %p, %p", a, b)
	}
	play(t, a, "0000", "GBBF")
	wantState(t, b, api.LineGood)
	wantSum(t, b, 0, 0)
	play(t, b, "pppp", "GGGG")
	play(t, a, "11-p", "FF-F")
	play(t, b, "p", "F")
	wantSum(t, a, 2, 4)
	wantSum(t, b, 0, 0)
	play(t, b, "1", "F")
	wantState(t, a, api.LineFailed)
	play(t, a, "1", "G")
	wantSum(t, a, 0, 0)
	wantSum(t, b, 1, 0)
	play(t, b, "11", "FG")
	wantState(t, New(4, 3, 5), api.LineGood)
	wantSum(t, New(4, 3, 5), 0, 0)
}

// A copy goes on from the same state and events, and neither sees what happens to the other one.
func TestP902ACopyIsIndependent(t *testing.T) {
	one := New(4, 3, 5)
	play(t, one, "1-00-1-ppp", "G-GB-B-BBB")
	two := *one
	play(t, one, "11", "BG")
	wantSum(t, one, 0, 0)
	wantSum(t, &two, 2, 2)
	wantState(t, &two, api.LineBad)
	play(t, &two, "p-p", "B-F")
	wantState(t, one, api.LineGood)
	play(t, one, "0", "G")
	wantSum(t, &two, 2, 2)
	play(t, &two, "11-1", "FF-G")
	wantSum(t, one, 0, 1)
}

func TestP902ResultsDoNotDependOnCallsAtTheSameTime(t *testing.T) {
	var joined sync.WaitGroup
	for worker := range 4 {
		joined.Go(func() {
			random := rand.New(rand.NewSource(int64(worker)))
			m, want := New(5, 2+worker, 3), newModel(5, 2+worker, 3)
			for range 3000 {
				ok, n := random.Intn(3) > 0, random.Intn(3)
				if got, state := m.Note(ok), want.note(ok); got != state {
					t.Errorf("worker %d: Note(%t) = %d, want %d", worker, ok, got, state)
				}
				if got, state := m.Pass(n), want.pass(n); got != state || m.State() != state {
					t.Errorf("worker %d: Pass(%d) = %d, want %d", worker, n, got, state)
				}
			}
		})
	}
	joined.Wait()
}
