package arq

import (
	"bytes"
	"math"
	"slices"
	"strconv"
	"strings"
	"testing"

	"signalman/api"
	"signalman/control"
)

// kinds holds the texts of the kinds of control fields, in the order of their numbers.
var kinds = []string{"I", "RR", "REJ", "SABME", "UA", "DISC", "DM", "FRMR"}

var states = []string{"Down", "Setup", "Up", "Closing"}

// pair holds what New is given and what that is limited to.
type pair struct{ given, limited int }

// limits returns numbers in and above the range from least to most, with what they are limited to.
func limits(least, most int) []pair {
	all := []pair{
		{least, least}, {least + 1, least + 1}, {(least + most) / 2, (least + most) / 2}, {most - 1, most - 1}, {most, most},
		{least - 1, least}, {least - 2, least}, {-most, least}, {math.MinInt32, least}, {-1 << 32, least}, {math.MinInt + 1, least}, {math.MinInt, least},
		{most + 1, most}, {most + 2, most}, {2 * most, most}, {math.MaxInt32, most}, {1 << 32, most}, {1<<32 + 1, most}, {math.MaxInt - 1, most}, {math.MaxInt, most},
	}
	return all
}

// conf is a small session.
func conf() api.Config {
	return api.Config{Modulus: 128, Window: 3, Queue: 2, T1: 10, N2: 2, Size: 8}
}

// field returns the control field of a text such as I3,4! or RR4 or UA.
func field(s string) api.Ctl {
	s, poll := strings.CutSuffix(s, "!")
	letters := strings.TrimRight(s, "0123456789,")
	ns, nr, two := strings.Cut(s[len(letters):], ",")
	if !two {
		ns, nr = "", ns
	}
	return api.Ctl{Kind: slices.Index(kinds, letters), Ns: number(ns), Nr: number(nr), Poll: poll}
}

// number returns the number that digits are; no digits are 0.
func number(digits string) int {
	n, _ := strconv.Atoi(digits)
	return n
}

// octets returns the output that a text such as I3,4!@5=abc tells: a control field, the tag and what is behind the field.
func octets(s string, m int) []byte {
	s, body, _ := strings.Cut(s, "=")
	s, tag, _ := strings.Cut(s, "@")
	t := number(tag)
	return slices.Concat([]byte{byte(t >> 8), byte(t)}, control.Bytes(field(s), m), []byte(body))
}

// text tells an output, as octets takes it.
func text(b []byte, m int) string {
	if len(b) < 2 {
		return "?"
	}
	c, n, errno := control.Read(b[2:], m)
	if errno != api.OK {
		return "?"
	}
	s := kinds[c.Kind]
	switch c.Kind {
	case api.CI:
		s += strconv.Itoa(c.Ns) + "," + strconv.Itoa(c.Nr)
	case api.CRR, api.CREJ:
		s += strconv.Itoa(c.Nr)
	}
	if c.Poll {
		s += "!"
	}
	s += "@" + strconv.Itoa(int(b[0])<<8|int(b[1]))
	if len(b) > 2+n {
		s += "=" + string(b[2+n:])
	}
	return s
}

// end is an end under test.
type end struct {
	t *testing.T
	a *Arq
	m int
}

func newEnd(t *testing.T, c api.Config) end {
	m := 128
	if c.Modulus == 32768 {
		m = 32768
	}
	return end{t, New(c), m}
}

// in lets the end hear outputs, which a text tells.
func (x end) in(outputs string) {
	for s := range strings.FieldsSeq(outputs) {
		x.a.Input(octets(s, x.m))
	}
}

// send sends messages, each of which must be accepted.
func (x end) send(messages ...string) {
	x.t.Helper()
	for _, s := range messages {
		if got := x.a.Send([]byte(s)); got != api.OK {
			x.t.Errorf("Send(%q) = %d", s, got)
		}
	}
}

// refuse sends a message that must be refused.
func (x end) refuse(s string, want api.Errno) {
	x.t.Helper()
	if got := x.a.Send([]byte(s)); got != want {
		x.t.Errorf("Send(%q) = %d, want %d", s, got, want)
	}
}

// outputs tells all outputs.
func (x end) outputs() string {
	var all []string
	for _, b := range x.a.Output() {
		all = append(all, text(b, x.m))
	}
	return strings.Join(all, " ")
}

// inds tells all indications, each by a letter.
func (x end) inds() string {
	s := ""
	for _, ind := range x.a.Inds() {
		s += string("?UDR"[ind])
	}
	return s
}

// ready tells all messages that are ready, each with a semicolon behind it.
func (x end) ready() string {
	s := ""
	for {
		b, ok := x.a.Recv()
		if !ok {
			if len(b) != 0 {
				x.t.Errorf("Recv() = %q, false", b)
			}
			return s
		}
		s += string(b) + ";"
	}
}

// told checks the outputs, the indications and the state.
func (x end) told(outputs, inds string, state int) {
	x.t.Helper()
	if got := x.outputs(); got != outputs {
		x.t.Errorf("outputs %q, want %q", got, outputs)
	}
	if got := x.inds(); got != inds {
		x.t.Errorf("indications %q, want %q", got, inds)
	}
	if got := x.a.State(); got != state {
		x.t.Errorf("the state is %d, want %d", got, state)
	}
}

// took checks the messages that are ready.
func (x end) took(want string) {
	x.t.Helper()
	if got := x.ready(); got != want {
		x.t.Errorf("ready %q, want %q", got, want)
	}
}

func (x end) counts(sent, acked, lost int) {
	x.t.Helper()
	if a, b, c := x.a.Counts(); a != sent || b != acked || c != lost {
		x.t.Errorf("Counts() = %d, %d, %d, want %d, %d, %d", a, b, c, sent, acked, lost)
	}
}

// connect calls Connect, which must be accepted.
func (x end) connect() {
	x.t.Helper()
	if got := x.a.Connect(); got != api.OK {
		x.t.Errorf("Connect() = %d", got)
	}
}

// close calls Close, which must be accepted.
func (x end) close() {
	x.t.Helper()
	if got := x.a.Close(); got != api.OK {
		x.t.Errorf("Close() = %d", got)
	}
}

// forget drops what the end has told so far.
func (x end) forget() {
	x.a.Output()
	x.a.Inds()
}

// at returns an end in a state, with a tag that it reached by accepting others before it.
func at(t *testing.T, c api.Config, state, tag int) end {
	t.Helper()
	x := newEnd(t, c)
	down := tag
	if state != api.Down {
		down = (tag + 65535) % 65536
	}
	for now := 0; now != down; {
		now = (now + min((down-now+65536)%65536, 30000)) % 65536
		x.in("SABME@" + strconv.Itoa(now))
	}
	if down != 0 {
		x.in("DM@" + strconv.Itoa(down))
	}
	switch state {
	case api.Setup:
		x.connect()
	case api.Up:
		x.in("SABME@" + strconv.Itoa(tag))
	case api.Closing:
		x.in("SABME@" + strconv.Itoa(tag))
		x.close()
	}
	x.forget()
	if x.a.State() != state || x.a.tag != tag {
		t.Fatalf("the state is %d and the tag %d, want %d and %d", x.a.State(), x.a.tag, state, tag)
	}
	return x
}

// up returns an end that is Up, with the tag 1.
func up(t *testing.T, c api.Config) end {
	t.Helper()
	return at(t, c, api.Up, 1)
}

func TestP1501Connect(t *testing.T) {
	x := newEnd(t, conf())
	x.told("", "", api.Down)
	x.connect()
	if got := x.a.Output(); len(got) != 1 || !bytes.Equal(got[0], []byte{0, 1, 0x7F}) {
		t.Errorf("Connect of a new end sends % X", got)
	}
	x.told("", "", api.Setup)
	for _, state := range []int{api.Setup, api.Up, api.Closing} {
		x := at(t, conf(), state, 7)
		if state == api.Up {
			x.send("a")
			x.forget()
		}
		x.a.Pass(6)
		if got := x.a.Connect(); got != api.ErrBusy {
			t.Errorf("%s: Connect() = %d, want ErrBusy", states[state], got)
		}
		x.told("", "", state)
		if x.a.tag != 7 {
			t.Errorf("%s: the tag is %d", states[state], x.a.tag)
		}
		x.a.Pass(3)
		x.told("", "", state)
		x.a.Pass(1)
		x.told([]string{"", "SABME!@7", "I0,0!@7=a", "DISC!@7"}[state], "", state)
	}
}

func TestP1501ConnectTakesTheNextTag(t *testing.T) {
	for _, c := range []struct {
		tag  int
		want string
	}{{0, "SABME!@1"}, {1, "SABME!@2"}, {255, "SABME!@256"}, {32767, "SABME!@32768"}, {65534, "SABME!@65535"}, {65535, "SABME!@0"}} {
		x := at(t, conf(), api.Down, c.tag)
		x.connect()
		x.told(c.want, "", api.Setup)
		x.a.Pass(30)
		x.told(c.want+" "+c.want, "D", api.Down)
		// The tag is kept: the next one follows it.
		x.connect()
		if got := (c.tag + 2) % 65536; x.a.tag != got {
			t.Errorf("the tag is %d, want %d", x.a.tag, got)
		}
	}
}

func TestP1501Close(t *testing.T) {
	for _, state := range []int{api.Down, api.Closing} {
		x := at(t, conf(), state, 7)
		left := x.a.left
		if got := x.a.Close(); got != api.ErrDown {
			t.Errorf("%s: Close() = %d, want ErrDown", states[state], got)
		}
		x.told("", "", state)
		if x.a.left != left {
			t.Errorf("%s: Close changes the timer", states[state])
		}
	}
	for _, state := range []int{api.Setup, api.Up} {
		x := at(t, conf(), state, 7)
		x.a.Pass(9)
		x.close()
		x.told("DISC!@7", "", api.Closing)
		x.a.Pass(9)
		x.told("", "", api.Closing)
		x.a.Pass(1)
		x.told("DISC!@7", "", api.Closing)
	}
}

func TestP1501CloseSetsTriesBack(t *testing.T) {
	x := at(t, conf(), api.Setup, 7)
	x.a.Pass(20)
	x.close()
	x.a.Pass(29)
	x.told("SABME!@7 SABME!@7 DISC!@7 DISC!@7 DISC!@7", "", api.Closing)
	x.a.Pass(1)
	x.told("", "D", api.Down)
}

func TestP1501SendInEachState(t *testing.T) {
	for state, want := range []api.Errno{api.ErrDown, api.ErrDown, api.OK, api.ErrDown} {
		x := at(t, conf(), state, 7)
		if got := x.a.Send([]byte("123456789")); got != api.ErrLong {
			t.Errorf("%s: Send of a message that is too long = %d", states[state], got)
		}
		x.counts(0, 0, 0)
		if got := x.a.Send([]byte("12345678")); got != want {
			t.Errorf("%s: Send() = %d, want %d", states[state], got, want)
		}
		if state == api.Up {
			x.counts(1, 0, 0)
			x.told("I0,0@7=12345678", "", api.Up)
		} else {
			x.counts(0, 0, 0)
			x.told("", "", state)
		}
	}
}

func TestP1501Send(t *testing.T) {
	x := up(t, conf())
	x.send("a", "", "12345678")
	x.told("I0,0@1=a I1,0@1 I2,0@1=12345678", "", api.Up)
	// The window is used up: two messages wait, and the queue is full.
	x.send("d", "e")
	x.refuse("f", api.ErrFull)
	x.refuse("", api.ErrFull)
	x.refuse("123456789", api.ErrLong)
	x.told("", "", api.Up)
	x.counts(5, 0, 0)
	x.in("RR1@1")
	x.told("I3,0@1=d", "", api.Up)
	x.send("g")
	x.refuse("h", api.ErrFull)
	x.in("RR4@1")
	x.told("I4,0@1=e I5,0@1=g", "", api.Up)
	x.in("I0,4@1=A")
	x.send("i")
	// What is sent tells which number is expected.
	x.told("RR1@1 I6,1@1=i", "", api.Up)
	x.counts(7, 4, 0)
}

func TestP1501SendWithoutQueue(t *testing.T) {
	c := conf()
	c.Queue = 0
	x := up(t, c)
	x.refuse("a", api.ErrFull)
	x.refuse("", api.ErrFull)
	x.counts(0, 0, 0)
	x.told("", "", api.Up)
}

func TestP1501Again(t *testing.T) {
	for _, state := range []int{api.Down, api.Setup, api.Up, api.Closing} {
		x := at(t, conf(), state, 7)
		left := x.a.left
		x.a.Again()
		x.told("", "", state)
		if x.a.left != left {
			t.Errorf("%s: Again without a message changes the timer", states[state])
		}
	}
	x := up(t, conf())
	x.send("a", "b", "c", "d")
	x.in("RR1@1 I0,1@1=A")
	x.forget()
	x.a.Again()
	x.told("I1,1@1=b I2,1@1=c I3,1@1=d", "", api.Up)
	x.a.Again()
	x.told("I1,1@1=b I2,1@1=c I3,1@1=d", "", api.Up)
	x.in("RR4@1")
	x.a.Again()
	x.told("", "", api.Up)
}

// reactions tells for each state and kind what follows from an input with the tag of the end, with one that is ahead, and with any other one: outputs, indications, the new state and the new tag. The ? is the Poll of the input.
func reactions(state int) map[string][3]string {
	switch state {
	case api.Down:
		none := "- - Down mine"
		refused := "DM@its - Down mine"
		return map[string][3]string{
			"SABME": {"DM@mine - Down mine", "UA?@its U Up its", "DM@mine - Down mine"},
			"UA":    {none, none, none},
			"DISC":  {refused, refused, refused},
			"DM":    {none, none, none},
			"FRMR":  {none, none, none},
			"I0,0":  {refused, refused, refused},
			"RR0":   {refused, refused, refused},
			"REJ0":  {refused, refused, refused},
			"I9,99": {refused, refused, refused},
		}
	case api.Setup:
		none := "- - Setup mine"
		refused := "DM@its - Setup mine"
		return map[string][3]string{
			"SABME": {"UA?@mine U Up mine", "UA?@its U Up its", none},
			"UA":    {"- U Up mine", none, none},
			"DISC":  {refused, refused, refused},
			"DM":    {"- D Down mine", "- D Down its", none},
			"FRMR":  {none, none, none},
			"I0,0":  {none, none, none},
			"RR0":   {none, none, none},
			"REJ0":  {none, none, none},
		}
	case api.Up:
		none := "- - Up mine"
		refused := "DM@its - Up mine"
		return map[string][3]string{
			"SABME": {"UA?@mine - Up mine", "UA?@its R Up its", none},
			"UA":    {none, none, none},
			"DISC":  {"UA?@mine D Down mine", refused, refused},
			"DM":    {"- D Down mine", none, none},
			"FRMR":  {"- D Down mine", none, none},
			"I0,0":  {"RR1?@mine - Up mine", none, none},
			"I1,0":  {"REJ0@mine - Up mine", none, none},
			"I3,0":  {"RR0?@mine - Up mine", none, none},
			"I0,99": {"RR1?@mine - Up mine", none, none},
			"RR0":   {none, none, none},
			"REJ0":  {none, none, none},
		}
	}
	none := "- - Closing mine"
	refused := "DM@its - Closing mine"
	return map[string][3]string{
		"SABME": {none, none, none},
		"UA":    {"- D Down mine", none, none},
		"DISC":  {"UA?@mine D Down mine", refused, refused},
		"DM":    {"- D Down mine", none, none},
		"FRMR":  {none, none, none},
		"I0,0":  {none, none, none},
		"RR0":   {none, none, none},
		"REJ0":  {none, none, none},
	}
}

// distances holds how far tags are from the one of the end: its own, those that are ahead, and others.
func distances() [][]int {
	return [][]int{{0}, {1, 2, 255, 256, 1000, 32766, 32767}, {32768, 32769, 40000, 65280, 65534, 65535}}
}

// react checks what follows from an input of a kind with a tag.
func react(t *testing.T, state, own, its int, kind, poll, behind, want string) {
	t.Helper()
	x := at(t, conf(), state, own)
	input := kind + poll + "@" + strconv.Itoa(its) + behind
	x.in(input)
	told := x.outputs() + " "
	if told == " " {
		told = "- "
	}
	if inds := x.inds(); inds != "" {
		told += inds + " "
	} else {
		told += "- "
	}
	told += states[x.a.State()] + " " + strconv.Itoa(x.a.tag)
	want = strings.ReplaceAll(want, "?", poll)
	want = strings.ReplaceAll(want, "mine", strconv.Itoa(own))
	want = strings.ReplaceAll(want, "its", strconv.Itoa(its))
	if told != want {
		t.Errorf("%s, tag %d: %s is answered by %s, want %s", states[state], own, input, told, want)
	}
}

func TestP1502EachKindInEachState(t *testing.T) {
	for state := range states {
		for kind, wants := range reactions(state) {
			for _, own := range []int{0, 1, 2, 255, 256, 32767, 32768, 40000, 65534, 65535} {
				for i, far := range distances() {
					for _, d := range far {
						its := (own + d) % 65536
						react(t, state, own, its, kind, "", "", wants[i])
						react(t, state, own, its, kind, "!", "", wants[i])
					}
				}
			}
		}
	}
}

func TestP1502BytesBehindAreIgnored(t *testing.T) {
	for state := range states {
		for kind, wants := range reactions(state) {
			for i, far := range distances() {
				// Behind a CI is its message, which may have 8 octets.
				for _, behind := range []string{"=\x00", "=a", "=\x7F\x01", "=12345678"} {
					react(t, state, 500, 500+far[0], kind, "!", behind, wants[i])
				}
				if kind[:2] == "RR" || kind[0] != 'I' {
					react(t, state, 500, 500+far[0], kind, "", "="+strings.Repeat("x", 2000), wants[i])
				}
			}
		}
	}
}

// TestP1502TheNumbersOfOthersDoNotCount is about control fields of a session with numbers that the end has not.
func TestP1502TheNumbersOfOthersDoNotCount(t *testing.T) {
	for _, own := range []int{1, 40000} {
		for _, input := range []string{"I0,2@", "RR2@", "REJ2@", "REJ0@", "RR1!@", "I0,0@"} {
			for _, far := range distances()[1:] {
				for _, d := range far {
					x := at(t, conf(), api.Up, own)
					x.send("a", "b")
					x.forget()
					x.in(input + strconv.Itoa((own+d)%65536))
					x.told("", "", api.Up)
					x.counts(2, 0, 0)
					x.took("")
				}
			}
		}
	}
}

// TestP1502WhatIsNoOutput lets ends in all states hear bytes that are no output of an end.
func TestP1502WhatIsNoOutput(t *testing.T) {
	for _, m := range []int{128, 32768} {
		c := conf()
		c.Modulus = m
		for state := range states {
			for _, b := range faulty(m) {
				x := at(t, c, state, 258)
				left := x.a.left
				x.a.Input(b)
				x.told("", "", state)
				x.took("")
				if x.a.left != left || x.a.tag != 258 {
					t.Errorf("%s: % X has an effect", states[state], b)
				}
			}
		}
	}
}

// faulty returns bytes that are no output: the tag 258 without a control field behind it, or less.
func faulty(m int) [][]byte {
	all := [][]byte{nil, {}, {0}, {1}, {2}, {0x6F}, {0x7F}, {1, 2}}
	for first := range 256 {
		for _, rest := range [][]byte{nil, {0}, {1}, {0, 0}, {1, 0}, {1, 0, 0}, {0, 1, 0, 0}, {128, 0, 0, 0}, {0, 0, 0, 0, 0}} {
			b := append([]byte{byte(first)}, rest...)
			if _, _, errno := control.Read(b, m); errno != api.OK {
				all = append(all, append([]byte{1, 2}, b...))
			}
		}
	}
	return all
}

func TestP1502Octets(t *testing.T) {
	for _, c := range []struct {
		modulus int
		outputs [][]byte
	}{
		{128, [][]byte{{1, 44, 0, 0, 'a'}, {1, 44, 2, 0}, {1, 44, 1, 2}, {1, 44, 9, 2}, {1, 44, 0, 3, 'a'}, {1, 44, 0x53}, {1, 45, 0x0F}, {1, 44, 0x63}}},
		{32768, [][]byte{{1, 44, 0, 0, 0, 0, 'a'}, {1, 44, 2, 0, 0, 0}, {1, 44, 1, 0, 2, 0}, {1, 44, 9, 0, 2, 0}, {1, 44, 0, 0, 3, 0, 'a'}, {1, 44, 0x53}, {1, 45, 0x0F}, {1, 44, 0x63}}},
	} {
		g := conf()
		g.Modulus = c.modulus
		x := at(t, g, api.Up, 300)
		x.send("a", "")
		x.in("I0,0@300=x I2,0@300=z")
		x.a.Pass(10)
		x.close()
		x.in("DISC@301 DISC@300")
		if got := x.a.Output(); !slices.EqualFunc(got, c.outputs, bytes.Equal) {
			t.Errorf("modulus %d: the outputs are % X, want % X", c.modulus, got, c.outputs)
		}
	}
}

// TestP1502WideNumbers uses numbers that only a modulus of 32,768 has.
func TestP1502WideNumbers(t *testing.T) {
	c := conf()
	c.Modulus, c.Window, c.Queue = 32768, 5000, 1000
	x := up(t, c)
	for i := range 4096 {
		x.send(strconv.Itoa(i))
	}
	if got := strings.Fields(x.outputs()); len(got) != 4096 || got[4095] != "I4095,0@1=4095" {
		t.Errorf("%d outputs", len(got))
	}
	x.send("more")
	x.told("", "", api.Up)
	x.in("RR4000@1")
	x.told("I4096,0@1=more", "", api.Up)
	x.in("I4095,4000@1 I4096,4000@1 I0,4097@1=A")
	x.told("REJ0@1 RR0@1 REJ1@1", "", api.Up)
	x.counts(4097, 4097, 0)
	x.took("A;")
}

func TestP1502TheNumbersWrapAround(t *testing.T) {
	for _, m := range []int{128, 32768} {
		c := conf()
		c.Modulus = m
		a, b := at(t, c, api.Up, 9), at(t, c, api.Up, 9)
		for i := range m + 300 {
			n, next := strconv.Itoa(i%m), strconv.Itoa((i+1)%m)
			s := strconv.Itoa(i)
			a.send(s)
			a.in("I" + n + "," + next + "@9=" + s)
			a.told("I"+n+","+n+"@9="+s+" RR"+next+"@9", "", api.Up)
			a.took(s + ";")
			b.in("I" + n + ",0@9=" + s)
			b.told("RR"+next+"@9", "", api.Up)
			b.took(s + ";")
		}
		a.counts(m+300, m+300, 0)
		// A window around the end of the numbers.
		x := at(t, c, api.Up, 9)
		for i := range m - 1 {
			x.send("")
			x.in("RR" + strconv.Itoa((i+1)%m) + "@9")
		}
		x.forget()
		x.send("x", "y", "z", "w")
		last := strconv.Itoa(m - 1)
		x.told("I"+last+",0@9=x I0,0@9=y I1,0@9=z", "", api.Up)
		x.in("REJ0@9")
		x.told("I0,0@9=y I1,0@9=z I2,0@9=w", "", api.Up)
		x.in("REJ" + last + "@9 RR" + last + "@9 RR4@9")
		x.told("", "", api.Up)
		x.in("RR3@9")
		x.counts(m+3, m+3, 0)
	}
}

func TestP1502SizeOfMessages(t *testing.T) {
	x := up(t, conf())
	x.send("a", "b")
	x.in("I0,1@1=12345678")
	x.told("I0,0@1=a I1,0@1=b RR1@1", "", api.Up)
	x.counts(2, 1, 0)
	// Of one that is too long, nothing counts, and it does not matter which number it has.
	x.in("I1,2!@1=123456789")
	x.told("FRMR@1", "D", api.Down)
	x.counts(2, 1, 1)
	x.took("12345678;")
	for _, input := range []string{"I7,0@1=", "I99,99!@1="} {
		x = up(t, conf())
		x.in(input + strings.Repeat("x", 3000))
		x.told("FRMR@1", "D", api.Down)
	}
	// In other states, and with another tag, it is as any other CI.
	for state, want := range []string{"DM@1", "", "", ""} {
		x = at(t, conf(), state, 5)
		x.in("I0,0@1=123456789")
		x.told(want, "", state)
	}
	for state, want := range []string{"DM@5", "", "FRMR@5", ""} {
		x = at(t, conf(), state, 5)
		x.in("I0,0@5=123456789")
		if got := x.outputs(); got != want {
			t.Errorf("%s: outputs %q, want %q", states[state], got, want)
		}
	}
}

func TestP1502Acknowledgments(t *testing.T) {
	for _, kind := range []string{"RR", "I0,", "I3,", "REJ"} {
		for acked := range 4 {
			x := up(t, conf())
			x.send("a", "b", "c", "d", "e")
			x.forget()
			x.in(kind + strconv.Itoa(acked) + "@1")
			x.counts(5, acked, 0)
			x.in("RR3@1")
			x.counts(5, 3, 0)
			x.in("RR5@1")
			x.counts(5, 5, 0)
		}
		// Numbers that acknowledge nothing.
		for _, n := range []int{0, 4, 5, 6, 64, 126, 127} {
			x := up(t, conf())
			x.send("a", "b", "c", "d", "e")
			x.in("RR1@1 RR2@1")
			x.forget()
			if n == 4 || n == 5 {
				// One that is out, and the next one, do.
				x.in("RR" + strconv.Itoa(n) + "@1")
				x.counts(5, n, 0)
				continue
			}
			x.in(kind + strconv.Itoa(n) + "@1")
			x.counts(5, 2, 0)
			if kind == "RR" || kind == "REJ" {
				x.told("", "", api.Up)
			}
		}
	}
}

func TestP1502Reject(t *testing.T) {
	x := up(t, conf())
	x.in("REJ0@1 REJ1@1 REJ0!@1")
	x.told("", "", api.Up)
	x.send("a", "b", "c", "d", "e")
	x.forget()
	// Nothing is acknowledged, but Ack is true.
	x.in("REJ0@1")
	x.told("I0,0@1=a I1,0@1=b I2,0@1=c", "", api.Up)
	x.in("REJ4@1 REJ127@1 REJ64@1")
	x.told("", "", api.Up)
	// The messages that wait follow those that were out.
	x.in("REJ2!@1")
	x.told("I2,0@1=c I3,0@1=d I4,0@1=e", "", api.Up)
	x.in("I0,2@1=A REJ4@1")
	x.told("RR1@1 I4,1@1=e", "", api.Up)
	x.in("REJ5@1")
	x.told("", "", api.Up)
	x.counts(5, 5, 0)
	x.a.Pass(1000)
	x.told("", "", api.Up)
}

// TestP1502OnlyARejectSendsAgain is about the same numbers in control fields of other kinds.
func TestP1502OnlyARejectSendsAgain(t *testing.T) {
	x := up(t, conf())
	x.send("a", "b", "c")
	x.forget()
	x.in("RR0@1 RR1@1")
	x.told("", "", api.Up)
	x.in("I0,1!@1=A I1,2@1=B")
	x.told("RR1!@1 RR2@1", "", api.Up)
	x.took("A;B;")
}

func TestP1502Gap(t *testing.T) {
	x := up(t, conf())
	x.in("I1,0@1=b")
	x.told("REJ0@1", "", api.Up)
	// It is reported once, whatever comes: more behind it, the same again, or what is outside the window.
	x.in("I2,0@1=c I1,0!@1=b I3,0@1=x I127,0!@1=x")
	x.told("RR0@1 RR0!@1 RR0@1 RR0!@1", "", api.Up)
	x.took("")
	x.in("I0,0!@1=a")
	x.told("RR3!@1", "", api.Up)
	x.took("a;b;c;")
	// A new one is reported again.
	x.in("I5,0!@1=f")
	x.told("REJ3@1", "", api.Up)
	x.in("I5,0@1=f")
	x.told("RR3@1", "", api.Up)
	// A part of it is closed: the rest is reported, too.
	x.in("I3,0!@1=d")
	x.told("REJ4@1", "", api.Up)
	x.in("I6,0@1=g")
	x.told("RR4@1", "", api.Up)
	x.in("I4,0@1=e")
	x.told("RR7@1", "", api.Up)
	x.took("d;e;f;g;")
	x.in("I6,0!@1=g I10,0@1=x")
	x.told("RR7!@1 RR7@1", "", api.Up)
	x.took("")
}

// TestP1502Order is about the order of what one input makes the end send.
func TestP1502Order(t *testing.T) {
	x := up(t, conf())
	x.send("a", "b", "c", "d", "e")
	x.forget()
	x.in("I1,2@1=B")
	x.told("REJ0@1 I3,0@1=d I4,0@1=e", "", api.Up)
	x.send("f", "g")
	x.in("I0,3!@1=A")
	x.told("RR2!@1 I5,2@1=f", "", api.Up)
	x.in("REJ4@1")
	x.told("I4,2@1=e I5,2@1=f I6,2@1=g", "", api.Up)
	x.took("A;B;")
}

// fill makes an end that is Up have two messages out and one ready, one that is stored behind a gap, a mark that it has rejected, and a try. In all, five messages were accepted, and two of them acknowledged.
func fill(x end) {
	x.t.Helper()
	x.send("a", "b", "c", "d")
	x.in("I0,2@1=A I2,2@1=C")
	x.a.Pass(10)
	x.send("e", "f")
	x.forget()
	x.counts(6, 2, 0)
}

// TestP1502Clearing looks at what is left after each way in which an end is cleared.
func TestP1502Clearing(t *testing.T) {
	for _, c := range []struct {
		what, outputs, inds string
		state               int
		clear               func(x end)
	}{
		{"Close", "DISC!@1", "", api.Closing, func(x end) { x.close() }},
		{"SABME", "UA@5", "R", api.Up, func(x end) { x.in("SABME@5") }},
		{"DISC", "UA!@1", "D", api.Down, func(x end) { x.in("DISC!@1") }},
		{"DM", "", "D", api.Down, func(x end) { x.in("DM@1") }},
		{"FRMR", "", "D", api.Down, func(x end) { x.in("FRMR@1") }},
		{"a long message", "FRMR@1", "D", api.Down, func(x end) { x.in("I1,4@1=123456789") }},
		{"the last try", "I2,1!@1=c", "D", api.Down, func(x end) { x.a.Pass(20) }},
	} {
		t.Run(c.what, func(t *testing.T) {
			x := up(t, conf())
			fill(x)
			c.clear(x)
			x.told(c.outputs, c.inds, c.state)
			x.counts(6, 2, 4)
			if c.state != api.Closing {
				x.a.Pass(1000)
				x.told("", "", c.state)
			}
			x.in("UA@1 SABME@10")
			x.forget()
			x.told("", "", api.Up)
			// Numbers begin anew, a gap is reported, and what was stored is gone.
			x.in("I1,0@10=2")
			x.told("REJ0@10", "", api.Up)
			x.in("I0,0@10=1")
			x.told("RR2@10", "", api.Up)
			x.took("A;1;2;")
			x.send("n")
			x.a.Pass(29)
			x.told("I0,2@10=n I0,2!@10=n I0,2!@10=n", "", api.Up)
			x.counts(7, 2, 4)
			x.a.Pass(1)
			x.told("", "D", api.Down)
			x.counts(7, 2, 5)
		})
	}
}

// TestP1502NothingIsCleared is about inputs that look like the end of a session, but leave it as it is.
func TestP1502NothingIsCleared(t *testing.T) {
	x := up(t, conf())
	fill(x)
	x.in("SABME!@1")
	x.told("UA!@1", "", api.Up)
	x.in("UA@1 SABME@0 SABME@32769 DM@0 DM@2 FRMR@0 FRMR@2 RR9@1")
	x.told("", "", api.Up)
	x.counts(6, 2, 0)
	x.in("I1,4@1=B")
	x.told("RR3@1 I5,3@1=f", "", api.Up)
	x.took("A;B;C;")
	x.counts(6, 4, 0)
}

// TestP1502AnAnswerIsNoTry is about a CSABME that comes again: neither the timer nor the tries change.
func TestP1502AnAnswerIsNoTry(t *testing.T) {
	x := up(t, conf())
	x.send("a")
	x.a.Pass(15)
	x.in("SABME!@1 UA@1")
	x.a.Pass(4)
	x.told("I0,0@1=a I0,0!@1=a UA!@1", "", api.Up)
	x.a.Pass(10)
	x.told("I0,0!@1=a", "", api.Up)
	x.a.Pass(1)
	x.told("", "D", api.Down)
}

func TestP1502BothEndsAsk(t *testing.T) {
	for _, c := range []struct {
		a, b int
		want int
	}{{0, 0, 1}, {5, 5, 6}, {5, 9, 10}, {9, 5, 10}, {65535, 65535, 0}, {65530, 3, 4}, {2, 65535, 3}} {
		a, b := at(t, conf(), api.Down, c.a), at(t, conf(), api.Down, c.b)
		a.connect()
		b.connect()
		for range 3 {
			fromA, fromB := a.a.Output(), b.a.Output()
			for _, s := range fromA {
				b.a.Input(s)
			}
			for _, s := range fromB {
				a.a.Input(s)
			}
		}
		for _, x := range []end{a, b} {
			x.told("", "U", api.Up)
			x.send("hello")
			x.told("I0,0@"+strconv.Itoa(c.want)+"=hello", "", api.Up)
		}
	}
}

func TestP1503TimerInSetup(t *testing.T) {
	x := newEnd(t, conf())
	x.a.Pass(1000)
	x.connect()
	x.a.Pass(9)
	x.told("SABME!@1", "", api.Setup)
	x.a.Pass(1)
	x.told("SABME!@1", "", api.Setup)
	x.a.Pass(10)
	x.told("SABME!@1", "", api.Setup)
	x.a.Pass(9)
	x.told("", "", api.Setup)
	x.a.Pass(1)
	x.told("", "D", api.Down)
	x.a.Pass(1000)
	x.told("", "", api.Down)
	// A new Connect has all tries, also after some of them at another one.
	x.connect()
	x.a.Pass(20)
	x.in("DM@2")
	x.connect()
	x.a.Pass(29)
	x.told("SABME!@2 SABME!@2 SABME!@2 SABME!@3 SABME!@3 SABME!@3", "D", api.Setup)
}

func TestP1503TimerInClosing(t *testing.T) {
	x := at(t, conf(), api.Closing, 7)
	x.a.Pass(29)
	x.told("DISC!@7 DISC!@7", "", api.Closing)
	x.a.Pass(1)
	x.told("", "D", api.Down)
	for _, input := range []string{"UA@7", "DM@7", "DISC@7"} {
		x = at(t, conf(), api.Closing, 7)
		x.in(input)
		x.forget()
		x.a.Pass(1000)
		x.told("", "", api.Down)
	}
}

func TestP1503TimerInUp(t *testing.T) {
	x := up(t, conf())
	x.a.Pass(1000)
	x.told("", "", api.Up)
	x.send("a", "b")
	x.in("I0,0@1=A")
	x.a.Pass(9)
	x.told("I0,0@1=a I1,0@1=b RR1@1", "", api.Up)
	x.a.Pass(1)
	x.told("I0,1!@1=a", "", api.Up)
	x.a.Pass(19)
	x.told("I0,1!@1=a", "", api.Up)
	x.a.Pass(1)
	x.told("", "D", api.Down)
	x.counts(2, 0, 2)
	x.a.Pass(1000)
	x.told("", "", api.Down)
}

func TestP1503NoSteps(t *testing.T) {
	for state := range states {
		x := at(t, conf(), state, 7)
		if state == api.Up {
			x.send("a")
			x.forget()
		}
		x.a.Pass(9)
		for _, n := range []int{0, -1, -10, math.MinInt32, -1 << 32, math.MinInt + 1, math.MinInt} {
			x.a.Pass(n)
		}
		x.told("", "", state)
		x.a.Pass(1)
		if got := x.outputs(); got != [4]string{"", "SABME!@7", "I0,0!@7=a", "DISC!@7"}[state] {
			t.Errorf("%s: outputs %q", states[state], got)
		}
	}
}

func TestP1503ManyStepsAtOnce(t *testing.T) {
	for _, n := range []int{30, 31, 100, 1 << 19, 1 << 20, 1<<20 + 1, 1 << 32, math.MaxInt - 1, math.MaxInt} {
		x := newEnd(t, conf())
		x.connect()
		x.a.Pass(n)
		x.told("SABME!@1 SABME!@1 SABME!@1", "D", api.Down)
		x = up(t, conf())
		x.send("a")
		x.a.Pass(n)
		x.told("I0,0@1=a I0,0!@1=a I0,0!@1=a", "D", api.Down)
		x = at(t, conf(), api.Closing, 1)
		x.a.Pass(n)
		x.told("DISC!@1 DISC!@1", "D", api.Down)
	}
	x := newEnd(t, conf())
	x.connect()
	x.a.Pass(25)
	x.told("SABME!@1 SABME!@1 SABME!@1", "", api.Setup)
	x.a.Pass(4)
	x.told("", "", api.Setup)
	x.a.Pass(1)
	x.told("", "D", api.Down)
}

func TestP1503StepsAreLimited(t *testing.T) {
	for _, n := range []int{1 << 20, 1<<20 + 1, 1<<20 + 5, 1 << 21, 1 << 32, 1<<32 + 7, math.MaxInt} {
		c := conf()
		c.T1, c.N2 = 1<<20-3, 100
		x := newEnd(t, c)
		x.connect()
		x.forget()
		x.a.Pass(n)
		x.told("SABME!@1", "", api.Setup)
		// Three steps have passed since.
		x.a.Pass(1<<20 - 7)
		x.told("", "", api.Setup)
		x.a.Pass(1)
		x.told("SABME!@1", "", api.Setup)
	}
}

// TestP1503TheTimerIsRestarted looks at each event that starts the timer anew, or does not.
func TestP1503TheTimerIsRestarted(t *testing.T) {
	for _, c := range []struct {
		what  string
		event func(x end)
		left  int
	}{
		{"nothing", func(x end) {}, 3},
		{"Send", func(x end) { x.send("d") }, 3},
		{"Send that waits", func(x end) { x.send("d", "e") }, 3},
		{"Again", func(x end) { x.a.Again() }, 10},
		{"RR of none", func(x end) { x.in("RR1@1") }, 3},
		{"RR of one", func(x end) { x.in("RR2@1") }, 10},
		{"RR of all", func(x end) { x.in("RR3@1") }, 0},
		{"RR of all, and one that waits", func(x end) { x.send("d", "e"); x.in("RR4@1") }, 10},
		{"RR of nothing", func(x end) { x.in("RR9@1") }, 3},
		{"REJ of none", func(x end) { x.in("REJ1@1") }, 10},
		{"REJ of one", func(x end) { x.in("REJ2@1") }, 10},
		{"REJ of all", func(x end) { x.in("REJ3@1") }, 0},
		{"REJ of nothing", func(x end) { x.in("REJ0@1") }, 3},
		{"I of none", func(x end) { x.in("I0,1!@1") }, 3},
		{"I of one", func(x end) { x.in("I0,2@1") }, 10},
		{"I of all", func(x end) { x.in("I0,3@1") }, 0},
		{"UA", func(x end) { x.in("UA@1") }, 3},
		{"SABME", func(x end) { x.in("SABME@1") }, 3},
		{"SABME of another session", func(x end) { x.in("SABME@2") }, 0},
		{"Close", func(x end) { x.close() }, 10},
		{"DISC of another session", func(x end) { x.in("DISC@2") }, 3},
		{"DISC", func(x end) { x.in("DISC@1") }, 0},
		{"expiry", func(x end) { x.a.Pass(3) }, 10},
		{"no expiry", func(x end) { x.a.Pass(2) }, 1},
	} {
		x := up(t, conf())
		x.send("a", "b", "c")
		x.in("RR1@1")
		x.a.Pass(7)
		c.event(x)
		x.forget()
		if c.left == 0 {
			x.a.Pass(1000)
			if got := x.outputs() + x.inds(); got != "" {
				t.Errorf("%s: the timer runs: %q", c.what, got)
			}
			continue
		}
		x.a.Pass(c.left - 1)
		if got := x.outputs(); got != "" {
			t.Errorf("%s: the timer expires too early: %q", c.what, got)
		}
		x.a.Pass(1)
		if got := x.outputs(); got == "" {
			t.Errorf("%s: the timer does not expire", c.what)
		}
	}
}

// TestP1503AgainStartsNoTimer is about messages that are not out.
func TestP1503AgainStartsNoTimer(t *testing.T) {
	for _, event := range []func(x end){
		func(x end) { x.a.Again() },
		func(x end) { x.in("REJ0@1") },
		func(x end) { x.in("RR0@1") },
		func(x end) { x.in("I0,0@1=A") },
	} {
		x := up(t, conf())
		event(x)
		x.a.Pass(6)
		x.send("a")
		x.forget()
		x.a.Pass(9)
		x.told("", "", api.Up)
		x.a.Pass(1)
		if got := x.outputs(); !strings.HasPrefix(got, "I0,") {
			t.Errorf("outputs %q", got)
		}
	}
}

// TestP1503TheTriesAreSetBack looks at each event after which all tries are left again, or not.
func TestP1503TheTriesAreSetBack(t *testing.T) {
	for _, c := range []struct {
		what  string
		event func(x end)
		tries int
	}{
		{"Again", func(x end) { x.a.Again() }, 0},
		{"RR of none", func(x end) { x.in("RR0@1"); x.a.Again() }, 0},
		{"RR of nothing", func(x end) { x.in("RR7@1"); x.a.Again() }, 0},
		{"REJ of none", func(x end) { x.in("REJ0@1") }, 0},
		{"a message", func(x end) { x.in("I0,0@1"); x.a.Again() }, 0},
		{"Send", func(x end) { x.send("c"); x.a.Again() }, 0},
		{"RR of one", func(x end) { x.in("RR1@1") }, 2},
		{"REJ of one", func(x end) { x.in("REJ1@1") }, 2},
		{"I of one", func(x end) { x.in("I0,1@1") }, 2},
		{"RR of all", func(x end) { x.in("RR2@1"); x.send("c") }, 2},
		{"a reset", func(x end) { x.in("SABME@2"); x.send("c") }, 2},
		{"Close", func(x end) { x.close() }, 2},
	} {
		x := up(t, conf())
		x.send("a", "b")
		x.a.Pass(20)
		c.event(x)
		x.forget()
		x.a.Pass(10*c.tries + 9)
		if got := len(x.a.Output()); got != c.tries || x.a.State() == api.Down {
			t.Errorf("%s: %d tries, want %d; the state is %d", c.what, got, c.tries, x.a.State())
		}
		x.a.Pass(1)
		x.told("", "D", api.Down)
	}
}

// TestP1502AgreementStopsTheTimer is about the timer and the tries of Setup, which do not go on in Up.
func TestP1502AgreementStopsTheTimer(t *testing.T) {
	for _, input := range []string{"UA@7", "SABME@7", "SABME@8"} {
		x := at(t, conf(), api.Setup, 7)
		x.a.Pass(25)
		x.in(input)
		x.forget()
		x.a.Pass(1000)
		x.told("", "", api.Up)
		x.send("a")
		x.forget()
		x.a.Pass(29)
		if got := len(x.a.Output()); got != 2 || x.a.State() != api.Up {
			t.Errorf("%s: %d tries; the state is %d", input, got, x.a.State())
		}
		x.a.Pass(1)
		x.told("", "D", api.Down)
	}
}

func TestP1504OutputAndInds(t *testing.T) {
	x := up(t, conf())
	x.told("", "", api.Up)
	x.told("", "", api.Up)
	x.send("a")
	x.in("SABME@4 SABME@9 DISC@9")
	x.connect()
	x.in("UA@10")
	x.send("b")
	x.told("I0,0@1=a UA@4 UA@9 UA@9 SABME!@10 I0,0@10=b", "RRDU", api.Up)
	x.told("", "", api.Up)
	if got := x.a.Output(); len(got) != 0 {
		t.Errorf("Output() = % X", got)
	}
	if got := x.a.Inds(); len(got) != 0 {
		t.Errorf("Inds() = %v", got)
	}
	x.in("DM@10")
	if got := x.a.Inds(); !slices.Equal(got, []int{api.IDown}) {
		t.Errorf("Inds() = %v", got)
	}
}

func TestP1504Recv(t *testing.T) {
	x := up(t, conf())
	x.took("")
	x.in("I1,0@1=b I0,0@1=a I2,0@1")
	x.took("a;b;;")
	x.took("")
	x.in("I3,0@1=d I5,0@1=gone")
	x.in("DM@1")
	x.told("REJ0@1 RR2@1 RR3@1 RR4@1 REJ4@1", "D", api.Down)
	// What was ready can be taken in all states, in front of what becomes ready in another session.
	x.connect()
	x.in("UA@2 I0,0@2=e")
	x.close()
	x.took("d;e;")
	x.took("")
	x.in("UA@2 SABME@3 I4,0@3 I1,0@3=g I0,0@3=f")
	x.took("f;g;")
}

func TestP1504Counts(t *testing.T) {
	x := up(t, conf())
	x.counts(0, 0, 0)
	x.send("a", "b", "c", "d", "e")
	x.refuse("f", api.ErrFull)
	x.refuse("123456789", api.ErrLong)
	x.counts(5, 0, 0)
	x.in("RR2@1")
	x.counts(5, 2, 0)
	x.in("RR2@1 I0,2@1")
	x.counts(5, 2, 0)
	x.in("RR5@1")
	x.counts(5, 5, 0)
	x.close()
	x.counts(5, 5, 0)
	x.in("UA@1 SABME@2")
	x.send("a", "b", "c", "d")
	x.in("RR1@2 SABME@3")
	x.counts(9, 6, 3)
	x.send("a", "b", "c", "d", "e")
	x.close()
	x.counts(14, 6, 8)
	x.refuse("f", api.ErrDown)
	x.in("UA@3")
	x.counts(14, 6, 8)
	x.connect()
	x.refuse("f", api.ErrDown)
	x.in("UA@4")
	x.send("a")
	x.a.Pass(30)
	x.counts(15, 6, 9)
	if got := x.inds(); got != "DURDUD" {
		t.Errorf("indications %q", got)
	}
}

func TestP1501Modulus(t *testing.T) {
	for _, m := range []int{0, 1, 7, 8, 127, 128, 129, 32767, 32768, 32769, 65536, -1, -128, -32768, 1<<32 + 128, 1<<32 + 32768, math.MaxInt, math.MinInt} {
		c := conf()
		c.Modulus = m
		x := up(t, c)
		x.send("a")
		want := []byte{0, 1, 0, 0, 'a'}
		if m == 32768 {
			want = []byte{0, 1, 0, 0, 0, 0, 'a'}
		}
		if got := x.a.Output(); len(got) != 1 || !bytes.Equal(got[0], want) {
			t.Errorf("modulus %d: the output is % X, want % X", m, got, want)
		}
	}
}

func TestP1501T1(t *testing.T) {
	for _, c := range limits(1, 1<<20) {
		g := conf()
		g.T1, g.N2 = c.given, 100
		x := newEnd(t, g)
		x.connect()
		x.forget()
		for range 3 {
			x.a.Pass(c.limited - 1)
			x.told("", "", api.Setup)
			x.a.Pass(1)
			x.told("SABME!@1", "", api.Setup)
		}
	}
}

func TestP1501N2(t *testing.T) {
	for _, c := range limits(1, 100) {
		for state := 1; state <= 3; state++ {
			g := conf()
			g.N2 = c.given
			x := at(t, g, state, 7)
			if state == api.Up {
				x.send("a")
				x.forget()
			}
			x.a.Pass(10*c.limited + 9)
			if got := len(x.a.Output()); got != c.limited || x.a.State() != state {
				t.Errorf("N2 %d, %s: %d tries, want %d; the state is %d", c.given, states[state], got, c.limited, x.a.State())
			}
			x.a.Pass(1)
			x.told("", "D", api.Down)
		}
	}
}

func TestP1501Size(t *testing.T) {
	for _, c := range limits(1, 1000) {
		g := conf()
		g.Size = c.given
		x := up(t, g)
		x.refuse(strings.Repeat("x", c.limited+1), api.ErrLong)
		x.send(strings.Repeat("x", c.limited), "")
		x.forget()
		x.in("I0,0@1=" + strings.Repeat("x", c.limited))
		x.told("RR1@1", "", api.Up)
		x.in("I1,0@1=" + strings.Repeat("x", c.limited+1))
		x.told("FRMR@1", "D", api.Down)
		x.took(strings.Repeat("x", c.limited) + ";")
	}
}

func TestP1501Window(t *testing.T) {
	for _, m := range []int{128, 32768} {
		for _, c := range limits(1, m/8) {
			g := conf()
			g.Modulus, g.Window, g.Queue = m, c.given, 1000
			x := up(t, g)
			for range c.limited + 5 {
				x.send("a")
			}
			if got := len(x.a.Output()); got != c.limited {
				t.Errorf("modulus %d, window %d: %d messages are out, want %d", m, c.given, got, c.limited)
			}
			// The same window is used for what is received.
			x.in("I" + strconv.Itoa(c.limited) + ",0@1=x")
			x.told("RR0@1", "", api.Up)
			if c.limited > 1 {
				x.in("I" + strconv.Itoa(c.limited-1) + ",0@1=x")
				x.told("REJ0@1", "", api.Up)
			}
		}
	}
}

func TestP1501Queue(t *testing.T) {
	for _, c := range limits(0, 1000) {
		g := conf()
		g.Queue = c.given
		x := up(t, g)
		want := c.limited
		if want > 0 {
			// The first three do not wait.
			want += 3
		}
		for range want {
			x.send("a")
		}
		x.refuse("b", api.ErrFull)
		x.counts(want, 0, 0)
	}
}

// TestOfNoConfig calls everything on ends that New did not make, or made of nothing: nothing panics.
func TestOfNoConfig(t *testing.T) {
	for _, a := range []*Arq{new(Arq), New(api.Config{})} {
		for range 3 {
			a.Send([]byte("a"))
			a.Connect()
			for _, kind := range kinds {
				for tag := range 4 {
					a.Input(octets(kind+"@"+strconv.Itoa(tag), 128))
					a.Send(nil)
					a.Again()
					a.Pass(1 << 20)
				}
			}
			a.Close()
			a.Recv()
			a.Output()
			a.Inds()
		}
	}
}
