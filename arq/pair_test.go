package arq

import (
	"bytes"
	"math/rand"
	"slices"
	"strconv"
	"testing"

	"signalman/api"
)

// side is one of two ends, with what happened to it under each tag.
type side struct {
	a *Arq
	// under way are the outputs that have not yet reached this end.
	underWay  [][]byte
	accepted  map[int][]string
	became    map[int][]string
	confirmed map[int]int
}

func newSide(x end) *side {
	x.forget()
	return &side{a: x.a, accepted: map[int][]string{}, became: map[int][]string{}, confirmed: map[int]int{}}
}

func (s *side) send(b string) bool {
	if s.a.Send([]byte(b)) != api.OK {
		return false
	}
	s.accepted[s.a.tag] = append(s.accepted[s.a.tag], b)
	return true
}

// hear lets the first output that is under way reach the end.
func (s *side) hear() {
	_, before, _ := s.a.Counts()
	tag := s.a.tag
	s.a.Input(s.underWay[0])
	s.underWay = s.underWay[1:]
	_, after, _ := s.a.Counts()
	s.confirmed[tag] += after - before
	for b, ok := s.a.Recv(); ok; b, ok = s.a.Recv() {
		s.became[s.a.tag] = append(s.became[s.a.tag], string(b))
	}
}

// link is two ends and the lines between them.
type link struct {
	t     *testing.T
	sides [2]*side
	// lost tells of each output whether it gets lost.
	lost func() bool
}

// collect takes the outputs of both ends.
func (l *link) collect() {
	for i, s := range l.sides {
		for _, b := range s.a.Output() {
			if !l.lost() {
				other := l.sides[1-i]
				other.underWay = append(other.underWay, b)
			}
		}
	}
}

// check holds what became ready against what was accepted, and what was acknowledged against what became ready.
func (l *link) check() {
	l.t.Helper()
	for i, s := range l.sides {
		other := l.sides[1-i]
		for tag, got := range s.became {
			sent := other.accepted[tag]
			if len(got) > len(sent) || !slices.Equal(got, sent[:len(got)]) {
				l.t.Fatalf("tag %d: %q became ready, and %q was sent", tag, got, sent)
			}
		}
		for tag, n := range s.confirmed {
			if n > len(other.became[tag]) {
				l.t.Fatalf("tag %d: %d acknowledged, and %d became ready", tag, n, len(other.became[tag]))
			}
		}
	}
}

// settle lets time pass, without losses, until nothing can happen any more.
func (l *link) settle(steps int) {
	l.lost = func() bool { return false }
	for range steps {
		for _, s := range l.sides {
			s.a.Pass(1)
		}
		l.collect()
		for _, s := range l.sides {
			for len(s.underWay) > 0 {
				s.hear()
			}
		}
	}
	l.check()
}

// complete checks that everything that was sent under the last tag became ready and was acknowledged, if both ends are Up.
func (l *link) complete() {
	l.t.Helper()
	a, b := l.sides[0], l.sides[1]
	if a.a.State() != api.Up || b.a.State() != api.Up {
		return
	}
	if a.a.tag != b.a.tag {
		l.t.Errorf("both ends are Up, with the tags %d and %d", a.a.tag, b.a.tag)
	}
	for i, s := range l.sides {
		tag, other := s.a.tag, l.sides[1-i]
		if !slices.Equal(s.accepted[tag], other.became[tag]) || s.confirmed[tag] != len(s.accepted[tag]) {
			l.t.Errorf("%d accepted, %d became ready, %d acknowledged", len(s.accepted[tag]), len(other.became[tag]), s.confirmed[tag])
		}
	}
}

// stir lets something happen at one of the ends, or lets one of them hear something.
func (l *link) stir(random *rand.Rand, n int) {
	s := l.sides[random.Intn(2)]
	switch k := random.Intn(400); {
	case k < 4:
		s.a.Connect()
	case k < 5:
		s.a.Close()
	case k < 7:
		s.a.Again()
	case k < 90:
		s.send("message " + strconv.Itoa(n))
	case k < 200:
		s.a.Pass(random.Intn(3))
	default:
		for range random.Intn(4) {
			if len(s.underWay) > 0 {
				s.hear()
			}
		}
	}
	l.collect()
}

// TestP1505LinesThatLose lets two ends send and receive, begin and end sessions over lines that delay and lose outputs.
func TestP1505LinesThatLose(t *testing.T) {
	ready, sessions, complete := 0, 0, 0
	for seed := range 150 {
		random := rand.New(rand.NewSource(int64(seed)))
		c := conf()
		c.T1, c.N2, c.Window, c.Queue, c.Size = 3+random.Intn(10), 1+random.Intn(20), 1+random.Intn(6), 1+random.Intn(20), 20
		c.Modulus = []int{128, 32768}[seed%2]
		tags := [][2]int{{0, 0}, {65534, 65534}, {65530, 2}, {40000, 40003}}[random.Intn(4)]
		rate := random.Intn(40)
		l := link{t: t, lost: func() bool { return random.Intn(100) < rate }}
		for i := range l.sides {
			l.sides[i] = newSide(at(t, c, api.Down, tags[i]))
		}
		for n := range 6000 {
			l.stir(random, n)
			l.check()
		}
		l.settle(500)
		l.complete()
		for _, s := range l.sides {
			for _, got := range s.became {
				ready += len(got)
			}
			sessions += len(s.became)
		}
		if l.sides[0].a.State() == api.Up && l.sides[1].a.State() == api.Up {
			complete++
		}
	}
	// Otherwise the lines would have been too bad to tell anything.
	if ready < 10000 || sessions < 500 || complete < 20 {
		t.Errorf("only %d messages became ready, in %d sessions, and %d were complete", ready, sessions, complete)
	}
}

// TestP1505AllLosses loses each of the first outputs, or not, in all possible ways.
func TestP1505AllLosses(t *testing.T) {
	const outputs = 11
	for pattern := range 1 << outputs {
		seen := 0
		l := link{t: t}
		c := conf()
		c.N2 = 20
		l.sides = [2]*side{newSide(newEnd(t, c)), newSide(newEnd(t, c))}
		l.lost = func() bool {
			seen++
			return seen <= outputs && pattern>>(seen-1)&1 == 1
		}
		l.sides[0].a.Connect()
		sent := 0
		for step := range 300 {
			if l.sides[step%2].send(strconv.Itoa(step)) {
				sent++
			}
			l.collect()
			for _, s := range l.sides {
				for len(s.underWay) > 0 {
					s.hear()
				}
				s.a.Pass(1)
			}
			l.check()
		}
		l.settle(50)
		l.complete()
		if l.sides[0].a.State() != api.Up || l.sides[1].a.State() != api.Up || sent == 0 {
			t.Fatalf("losses %b: the states are %d and %d, and %d messages were sent", pattern, l.sides[0].a.State(), l.sides[1].a.State(), sent)
		}
	}
}

// TestP1505LinesWithoutLosses sends more messages than there are numbers.
func TestP1505LinesWithoutLosses(t *testing.T) {
	l := link{t: t, lost: func() bool { return false }}
	l.sides = [2]*side{newSide(newEnd(t, conf())), newSide(newEnd(t, conf()))}
	l.sides[1].a.Connect()
	l.settle(5)
	for n := range 2000 {
		for _, s := range l.sides {
			if !s.send(strconv.Itoa(n)) {
				t.Fatalf("message %d is refused", n)
			}
		}
		l.settle(2)
	}
	l.complete()
	for _, s := range l.sides {
		if got := len(s.became[1]); got != 2000 {
			t.Errorf("%d messages became ready", got)
		}
	}
}

// spoil changes all of a slice, also what lies behind its end.
func spoil(b []byte) {
	b = b[:cap(b)]
	for i := range b {
		b[i] ^= 0xFF
	}
}

func TestP102SendKeepsNoArgument(t *testing.T) {
	c := conf()
	c.Window = 2
	x := up(t, c)
	memory := []byte("abcdefgh")
	for _, part := range [][]byte{memory[:2], memory[1:4], memory[2:5], memory[:0]} {
		if got := x.a.Send(part); got != api.OK {
			t.Errorf("Send(%q) = %d", part, got)
		}
	}
	if string(memory) != "abcdefgh" {
		t.Errorf("Send makes the bytes %q", memory)
	}
	spoil(memory)
	// Of messages that are out, and of those that wait.
	x.told("I0,0@1=ab I1,0@1=bcd", "", api.Up)
	x.a.Again()
	x.in("RR2@1")
	x.told("I0,0@1=ab I1,0@1=bcd I2,0@1=cde I3,0@1", "", api.Up)
	x.a.Pass(10)
	x.told("I2,0!@1=cde", "", api.Up)
}

func TestP102InputKeepsNoArgument(t *testing.T) {
	x := up(t, conf())
	for _, s := range []string{"I2,0@1=ghi", "I1,0@1=def", "I0,0@1=abc"} {
		b := append(make([]byte, 0, 64), octets(s, 128)...)
		x.a.Input(b)
		spoil(b)
	}
	x.took("abc;def;ghi;")
	x.told("REJ0@1 RR0@1 RR3@1", "", api.Up)
	// What is ready is not shared with a later input either.
	b := octets("I3,0@1=jkl", 128)
	x.a.Input(b)
	copy(b, octets("I4,0@1=mno", 128))
	x.a.Input(b)
	x.took("jkl;mno;")
}

func TestP102ArgumentsAreNotModified(t *testing.T) {
	for state := range states {
		for kind := range kinds {
			for length := range 6 {
				s := kinds[kind]
				if kind == api.CI {
					s += "0,0"
				}
				memory := append(octets(s+"!@7=12345", 128), "behind"...)
				before := bytes.Clone(memory)
				x := at(t, conf(), state, 7)
				x.a.Input(memory[:len(memory)-6-5+length])
				x.a.Send(memory[:length])
				x.a.Again()
				x.a.Pass(100)
				x.ready()
				x.forget()
				if !bytes.Equal(memory, before) {
					t.Errorf("%s: % X became % X", states[state], before, memory)
				}
			}
		}
	}
}

func TestP102OutputsAreNewMemory(t *testing.T) {
	x := up(t, conf())
	x.send("abc", "abc", "abc")
	x.in("I0,0@1=x SABME@1")
	outputs := x.a.Output()
	for i := range outputs {
		copies := make([]string, len(outputs))
		for k, b := range outputs {
			copies[k] = string(b)
		}
		_ = append(outputs[i], "xyz"...)
		spoil(outputs[i])
		for k, b := range outputs {
			if k != i && string(b) != copies[k] {
				t.Errorf("output %d shares memory with %d", k, i)
			}
		}
	}
	// The list belongs to the caller, too.
	clear(outputs[:cap(outputs)])
	x.a.Again()
	again := x.a.Output()
	clear(outputs[:cap(outputs)])
	_ = append(outputs[:0], nil, nil, nil, nil)
	x.a.Pass(10)
	x.told("I0,1!@1=abc", "", api.Up)
	for i, b := range again {
		if got, want := text(b, 128), "I"+strconv.Itoa(i)+",1@1=abc"; got != want {
			t.Errorf("output %q, want %q", got, want)
		}
	}
	x.took("x;")
}

func TestP102OutputsAreNotChangedLater(t *testing.T) {
	x := up(t, conf())
	x.send("abc", "def")
	first := x.a.Output()
	for tag := range 50 {
		x.in("SABME@" + strconv.Itoa(tag+2))
		x.send("xyz", "uvw")
		x.a.Pass(10)
		x.a.Output()
	}
	if len(first) != 2 || text(first[0], 128) != "I0,0@1=abc" || text(first[1], 128) != "I1,0@1=def" {
		t.Errorf("the outputs became % X", first)
	}
}

func TestP102IndsAreNewMemory(t *testing.T) {
	x := up(t, conf())
	x.in("SABME@2 SABME@3")
	first := x.a.Inds()
	x.in("DM@3")
	clear(first[:cap(first)])
	_ = append(first[:0], 9, 9, 9)
	if got := x.a.Inds(); !slices.Equal(got, []int{api.IDown}) {
		t.Errorf("Inds() = %v", got)
	}
	x.connect()
	x.in("UA@4 SABME@5")
	kept := x.a.Inds()
	x.in("DM@5 SABME@6")
	if !slices.Equal(kept, []int{api.IUp, api.IReset}) {
		t.Errorf("the indications became %v", kept)
	}
}

func TestP102ReceivedMessagesAreNewMemory(t *testing.T) {
	x := up(t, conf())
	b := octets("I0,0@1=abc", 128)
	x.a.Input(b)
	x.in("I1,0@1=abc I2,0@1=abc")
	for range 2 {
		got, ok := x.a.Recv()
		if string(got) != "abc" || !ok {
			t.Errorf("Recv() = %q, %t", got, ok)
		}
		_ = append(got, "xyz"...)
		spoil(got)
	}
	if text(b, 128) != "I0,0@1=abc" {
		t.Errorf("a result shares memory with the argument: % X", b)
	}
	x.took("abc;")
}
