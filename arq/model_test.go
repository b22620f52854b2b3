package arq

import (
	"math/rand"
	"slices"
	"strconv"
	"strings"
	"sync"
	"testing"

	"signalman/api"
)

// model is an end in the plainest form: it lets steps pass one by one, and tells its outputs as texts.
type model struct {
	m, window, queue, t1, n2, size int

	state, tag, tries    int
	running, rejected    bool
	due, now             int
	waiting, out         []string
	first, expected      int
	stored               map[int]string
	ready, outputs, inds []string
	sent, acked, lost    int
}

func clamp(n, least, most int) int {
	if n < least {
		return least
	}
	if n > most {
		return most
	}
	return n
}

func newModel(c api.Config) *model {
	x := &model{m: 128, stored: map[int]string{}}
	if c.Modulus == 32768 {
		x.m = 32768
	}
	x.window, x.queue = clamp(c.Window, 1, x.m/8), clamp(c.Queue, 0, 1000)
	x.t1, x.n2, x.size = clamp(c.T1, 1, 1<<20), clamp(c.N2, 1, 100), clamp(c.Size, 1, 1000)
	return x
}

func (x *model) start() {
	x.running, x.due = true, x.now+x.t1
}

// tell appends an output: a control field without its tag and Poll, which follow.
func (x *model) tell(field string, poll bool, tag int, body string) {
	if poll {
		field += "!"
	}
	field += "@" + strconv.Itoa(tag)
	if body != "" {
		field += "=" + body
	}
	x.outputs = append(x.outputs, field)
}

// message tells the I of the i-th message that is out.
func (x *model) message(i int, poll bool) {
	n := (x.first + i) % x.m
	x.tell("I"+strconv.Itoa(n)+","+strconv.Itoa(x.expected), poll, x.tag, x.out[i])
}

func (x *model) pump() {
	for x.state == api.Up && len(x.waiting) > 0 && len(x.out) < x.window {
		x.out = append(x.out, x.waiting[0])
		x.waiting = x.waiting[1:]
		x.message(len(x.out)-1, false)
		if !x.running {
			x.start()
		}
	}
}

func (x *model) retransmit() {
	for i := range x.out {
		x.message(i, false)
	}
	if len(x.out) > 0 {
		x.start()
	}
}

func (x *model) clear() {
	x.lost += len(x.out) + len(x.waiting)
	x.out, x.waiting, x.first = nil, nil, 0
	x.stored, x.expected = map[int]string{}, 0
	x.running, x.tries, x.rejected = false, 0, false
}

func (x *model) end() {
	x.clear()
	x.state = api.Down
	x.inds = append(x.inds, "D")
}

func (x *model) connect() api.Errno {
	if x.state != api.Down {
		return api.ErrBusy
	}
	x.tag = (x.tag + 1) % 65536
	x.state, x.tries = api.Setup, 0
	x.tell("SABME", true, x.tag, "")
	x.start()
	return api.OK
}

func (x *model) close() api.Errno {
	if x.state == api.Down || x.state == api.Closing {
		return api.ErrDown
	}
	x.clear()
	x.state = api.Closing
	x.tell("DISC", true, x.tag, "")
	x.start()
	return api.OK
}

func (x *model) send(b string) api.Errno {
	switch {
	case len(b) > x.size:
		return api.ErrLong
	case x.state != api.Up:
		return api.ErrDown
	case len(x.waiting) >= x.queue:
		return api.ErrFull
	}
	x.waiting = append(x.waiting, b)
	x.sent++
	x.pump()
	return api.OK
}

func (x *model) again() {
	if x.state == api.Up {
		x.retransmit()
	}
}

func (x *model) pass(n int) {
	for range clamp(n, 0, 1<<20) {
		x.now++
		if !x.running || x.now < x.due {
			continue
		}
		x.tries++
		if x.tries > x.n2 {
			x.end()
			continue
		}
		x.start()
		switch {
		case x.state == api.Setup:
			x.tell("SABME", true, x.tag, "")
		case x.state == api.Closing:
			x.tell("DISC", true, x.tag, "")
		case len(x.out) > 0:
			x.message(0, true)
		}
	}
}

// note is what an input tells.
type note struct {
	tag, kind, ns, nr int
	poll              bool
	body              string
}

func (x *model) input(i note) {
	same := i.tag == x.tag
	d := (i.tag - x.tag + 65536) % 65536
	ahead := d >= 1 && d <= 32767
	switch i.kind {
	case api.CSABME:
		x.sabme(i, same, ahead)
	case api.CUA:
		if same && x.state == api.Setup {
			x.state, x.running, x.tries = api.Up, false, 0
			x.inds = append(x.inds, "U")
			x.pump()
		} else if same && x.state == api.Closing {
			x.end()
		}
	case api.CDISC:
		if same && (x.state == api.Up || x.state == api.Closing) {
			x.tell("UA", i.poll, x.tag, "")
			x.end()
		} else {
			x.tell("DM", false, i.tag, "")
		}
	case api.CDM:
		if x.state == api.Setup && ahead {
			x.tag = i.tag
			x.end()
		} else if same && x.state != api.Down {
			x.end()
		}
	case api.CFRMR:
		if same && x.state == api.Up {
			x.end()
		}
	default:
		x.numbered(i, same)
	}
}

func (x *model) sabme(i note, same, ahead bool) {
	if x.state == api.Closing {
		return
	}
	if x.state == api.Up && same {
		x.tell("UA", i.poll, x.tag, "")
		return
	}
	if x.state == api.Setup && same || ahead {
		ind := "U"
		if x.state == api.Up {
			ind = "R"
		}
		x.clear()
		x.tag, x.state = i.tag, api.Up
		x.tell("UA", i.poll, x.tag, "")
		x.inds = append(x.inds, ind)
		return
	}
	if x.state == api.Down {
		x.tell("DM", false, x.tag, "")
	}
}

func (x *model) numbered(i note, same bool) {
	if x.state == api.Down {
		x.tell("DM", false, i.tag, "")
		return
	}
	if x.state != api.Up || !same {
		return
	}
	if i.kind == api.CI && len(i.body) > x.size {
		x.tell("FRMR", false, x.tag, "")
		x.end()
		return
	}
	removed := (i.nr - x.first + x.m) % x.m
	if removed > 0 && removed <= len(x.out) {
		x.out = x.out[removed:]
		x.first = i.nr
		x.acked += removed
		x.tries = 0
		x.running = false
		if len(x.out) > 0 {
			x.start()
		}
		removed = 0
	}
	if i.kind == api.CREJ && removed == 0 {
		x.retransmit()
	}
	if i.kind == api.CI {
		x.receive(i)
	}
	x.pump()
}

func (x *model) receive(i note) {
	if _, ok := x.stored[i.ns]; !ok && (i.ns-x.expected+x.m)%x.m < x.window {
		x.stored[i.ns] = i.body
	}
	for {
		b, ok := x.stored[x.expected]
		if !ok {
			break
		}
		delete(x.stored, x.expected)
		x.ready = append(x.ready, b)
		x.expected = (x.expected + 1) % x.m
		x.rejected = false
	}
	answer, poll := "RR", i.poll
	if len(x.stored) > 0 && !x.rejected {
		answer, poll, x.rejected = "REJ", false, true
	}
	x.tell(answer+strconv.Itoa(x.expected), poll, x.tag, "")
}

// both is an end and its model, to which the same calls happen.
type both struct {
	end
	x *model
}

func newBoth(t *testing.T, c api.Config) both {
	return both{newEnd(t, c), newModel(c)}
}

// same compares a result of the two.
func (b both) same(what string, got, want api.Errno) {
	b.t.Helper()
	if got != want {
		b.t.Fatalf("%s = %d, want %d", what, got, want)
	}
}

func (b both) connectBoth() {
	b.t.Helper()
	b.same("Connect()", b.a.Connect(), b.x.connect())
}

func (b both) closeBoth() {
	b.t.Helper()
	b.same("Close()", b.a.Close(), b.x.close())
}

func (b both) sendBoth(s string) {
	b.t.Helper()
	b.same("Send("+s+")", b.a.Send([]byte(s)), b.x.send(s))
}

func (b both) againBoth() {
	b.a.Again()
	b.x.again()
}

func (b both) passBoth(n int) {
	b.a.Pass(n)
	b.x.pass(n)
}

func (b both) inputBoth(i note) {
	s := kinds[i.kind]
	switch i.kind {
	case api.CI:
		s += strconv.Itoa(i.ns) + "," + strconv.Itoa(i.nr)
	case api.CRR, api.CREJ:
		s += strconv.Itoa(i.nr)
	}
	if i.poll {
		s += "!"
	}
	b.a.Input(octets(s+"@"+strconv.Itoa(i.tag)+"="+i.body, b.m))
	b.x.input(i)
}

// compare compares what can be asked without a change.
func (b both) compare() {
	b.t.Helper()
	if got := b.a.State(); got != b.x.state {
		b.t.Fatalf("the state is %d, want %d", got, b.x.state)
	}
	if sent, acked, lost := b.a.Counts(); sent != b.x.sent || acked != b.x.acked || lost != b.x.lost {
		b.t.Fatalf("Counts() = %d, %d, %d, want %d, %d, %d", sent, acked, lost, b.x.sent, b.x.acked, b.x.lost)
	}
}

// compareAll compares all that has been told.
func (b both) compareAll() {
	b.t.Helper()
	b.compare()
	if got, want := b.outputs(), strings.Join(b.x.outputs, " "); got != want {
		b.t.Fatalf("outputs %q, want %q", got, want)
	}
	if got, want := b.inds(), strings.Join(b.x.inds, ""); got != want {
		b.t.Fatalf("indications %q, want %q", got, want)
	}
	for _, want := range b.x.ready {
		if got, ok := b.a.Recv(); string(got) != want || !ok {
			b.t.Fatalf("Recv() = %q, %t, want %q", got, ok, want)
		}
	}
	if got, ok := b.a.Recv(); len(got) != 0 || ok {
		b.t.Fatalf("Recv() = %q, %t, want none", got, ok)
	}
	b.x.outputs, b.x.inds, b.x.ready = nil, nil, nil
}

// someTag returns mostly the tag of the end, and sometimes one that is near or at a limit.
func someTag(random *rand.Rand, tag int) int {
	d := 0
	if random.Intn(5) == 0 {
		d = []int{1, 2, 3, 32766, 32767, 32768, 32769, 65534, 65535}[random.Intn(9)]
	}
	return (tag + d) % 65536
}

// someInput returns an input that has a good chance to be understood.
func someInput(random *rand.Rand, x *model) note {
	kind := random.Intn(8)
	if x.state == api.Up && random.Intn(20) > 0 {
		kind = []int{api.CI, api.CI, api.CI, api.CRR, api.CREJ}[random.Intn(5)]
	}
	i := note{tag: someTag(random, x.tag), kind: kind, poll: random.Intn(3) == 0}
	i.ns = (x.expected + random.Intn(x.window+4) - 2 + x.m) % x.m
	i.nr = (x.first + random.Intn(len(x.out)+4) - 1 + x.m) % x.m
	if random.Intn(30) == 0 {
		i.nr = random.Intn(x.m)
	}
	if random.Intn(4) > 0 {
		i.body = someMessage(random, x.size)
	}
	return i
}

// someMessage returns a message that is seldom too long.
func someMessage(random *rand.Rand, size int) string {
	b := make([]byte, random.Intn(size+1))
	if random.Intn(60) == 0 {
		b = make([]byte, size+random.Intn(3))
	}
	random.Read(b)
	return string(b)
}

// act lets the same call happen to an end and its model.
func act(random *rand.Rand, b both) {
	b.t.Helper()
	switch random.Intn(20) {
	case 0, 1:
		b.connectBoth()
	case 2:
		if random.Intn(10) == 0 {
			b.closeBoth()
		}
	case 3, 4, 5, 6:
		b.sendBoth(someMessage(random, b.x.size))
	case 7:
		b.againBoth()
	case 8, 9, 10:
		b.passBoth([]int{-1, 0, 1, 2, b.x.t1 - 1, b.x.t1, b.x.t1 + 1, 3*b.x.t1 + 1, b.x.t1 * (b.x.n2 + 1)}[random.Intn(9)])
	default:
		b.inputBoth(someInput(random, b.x))
	}
}

// configs holds sessions that reach their limits soon.
func configs() []api.Config {
	return []api.Config{
		{Modulus: 128, Window: 3, Queue: 2, T1: 10, N2: 2, Size: 8},
		{Modulus: 128, Window: 1, Queue: 1, T1: 1, N2: 1, Size: 1},
		{Modulus: 32768, Window: 4, Queue: 3, T1: 5, N2: 3, Size: 20},
		{Modulus: 7, Window: 100, Queue: 20, T1: 3, N2: 10, Size: 3},
		{Modulus: 128, Window: 2, Queue: 0, T1: 4, N2: 4, Size: 4},
		{Modulus: 128, Window: 8, Queue: 5, T1: 50, N2: 100, Size: 100},
		{},
	}
}

func TestP1502RandomCalls(t *testing.T) {
	random := rand.New(rand.NewSource(15))
	for _, c := range configs() {
		for range 20 {
			b := newBoth(t, c)
			// Near the end of the tags, too.
			for range random.Intn(3) {
				b.inputBoth(note{tag: b.x.tag + 32767, kind: api.CSABME})
			}
			for range 1500 {
				act(random, b)
				if random.Intn(3) == 0 {
					b.compareAll()
				} else {
					b.compare()
				}
			}
			b.compareAll()
		}
	}
}

// step lets a call of a kind happen to an end and its model.
func step(b both, kind, call int) {
	tag, next := b.x.tag, (b.x.first+len(b.x.out))%b.m
	body := string(rune('a' + call))
	switch kind {
	case 0:
		b.connectBoth()
	case 1:
		b.closeBoth()
	case 2:
		b.sendBoth(body)
	case 3:
		b.againBoth()
	case 4:
		b.passBoth(10)
	case 5:
		b.passBoth(7)
	case 6:
		b.inputBoth(note{tag: tag, kind: api.CUA})
	case 7:
		b.inputBoth(note{tag: (tag + 1) % 65536, kind: api.CSABME, poll: true})
	case 8:
		b.inputBoth(note{tag: tag, kind: api.CDISC})
	case 9:
		b.inputBoth(note{tag: (tag + 1) % 65536, kind: api.CDM})
	case 10:
		b.inputBoth(note{tag: tag, kind: api.CREJ, nr: b.x.first})
	case 11:
		b.inputBoth(note{tag: tag, kind: api.CRR, nr: next})
	case 12:
		b.inputBoth(note{tag: tag, kind: api.CI, ns: b.x.expected, nr: (b.x.first + min(1, len(b.x.out))) % b.m, body: body, poll: true})
	case 13:
		b.inputBoth(note{tag: tag, kind: api.CI, ns: (b.x.expected + 1) % b.m, nr: b.x.first, body: body})
	}
}

// TestP1502AllRowsOfCalls lets all rows of four calls happen to a new end, and to ends that are in the middle of a session.
func TestP1502AllRowsOfCalls(t *testing.T) {
	const kindsOfCalls, length = 14, 4
	rows := 1
	for range length {
		rows *= kindsOfCalls
	}
	for row := range rows {
		for _, before := range [][]int{nil, {0, 6, 2, 2, 2, 2, 5, 13}, {0, 5, 4}} {
			b := newBoth(t, conf())
			for call, kind := range before {
				step(b, kind, call)
			}
			rest := row
			for call := range length {
				step(b, rest%kindsOfCalls, call)
				b.compare()
				rest /= kindsOfCalls
			}
			b.compareAll()
		}
	}
}

// TestP1503StepsInParts lets the same number of steps pass at once and one by one.
func TestP1503StepsInParts(t *testing.T) {
	random := rand.New(rand.NewSource(1503))
	for _, c := range configs() {
		for state := range states {
			for range 20 {
				a, b := at(t, c, state, 9), at(t, c, state, 9)
				for _, x := range []end{a, b} {
					x.a.Send([]byte("a"))
				}
				n := random.Intn(400)
				a.a.Pass(n)
				for range n {
					b.a.Pass(1)
				}
				a.told(b.outputs(), b.inds(), b.a.State())
				if a.a.left != b.a.left || a.a.tries != b.a.tries {
					t.Errorf("%d and %d steps are left, %d and %d tries", a.a.left, b.a.left, a.a.tries, b.a.tries)
				}
			}
		}
	}
}

func TestP1505Independent(t *testing.T) {
	random := rand.New(rand.NewSource(1505))
	var ends []both
	for _, c := range slices.Concat(configs(), configs()[:3]) {
		ends = append(ends, newBoth(t, c))
	}
	for range 20000 {
		act(random, ends[random.Intn(len(ends))])
		for _, b := range ends {
			b.compare()
		}
		if random.Intn(4) == 0 {
			ends[random.Intn(len(ends))].compareAll()
		}
	}
	for _, b := range ends {
		b.compareAll()
	}
}

func TestP1505TwoEndsByTurns(t *testing.T) {
	a, b := up(t, conf()), up(t, conf())
	a.send("a", "b", "c", "d")
	b.told("", "", api.Up)
	b.send("x")
	a.told("I0,0@1=a I1,0@1=b I2,0@1=c", "", api.Up)
	a.in("I1,0@1=B")
	b.in("I0,1@1=X")
	a.told("REJ0@1", "", api.Up)
	b.told("I0,0@1=x RR1@1", "", api.Up)
	a.took("")
	b.took("X;")
	a.counts(4, 0, 0)
	b.counts(1, 1, 0)
	a.a.Pass(9)
	b.a.Pass(1)
	a.told("", "", api.Up)
	a.a.Pass(1)
	b.told("", "", api.Up)
	a.told("I0,0!@1=a", "", api.Up)
	b.close()
	b.told("DISC!@1", "", api.Closing)
	New(conf()).Connect()
	a.told("", "", api.Up)
	a.in("I0,0@1=A")
	a.took("A;B;")
}

// TestP1505SameCallsSameAnswers is about answers that hang on anything but the calls on the same end (P102).
func TestP1505SameCallsSameAnswers(t *testing.T) {
	var first string
	for round := range 4 {
		random := rand.New(rand.NewSource(3))
		b := newBoth(t, conf())
		var told []string
		for range 2000 {
			act(random, b)
			told = append(told, b.outputs(), b.inds(), b.ready())
		}
		if all := strings.Join(told, " "); round == 0 {
			first = all
		} else if all != first {
			t.Errorf("round %d tells something else than the first one", round)
		}
	}
}

func TestP1505Goroutines(t *testing.T) {
	var joined sync.WaitGroup
	for i := range 8 {
		joined.Go(func() {
			x := newEnd(t, conf())
			x.in("SABME@" + strconv.Itoa(i+1))
			x.forget()
			tag := "@" + strconv.Itoa(i+1)
			for n := range 3000 {
				number, next := strconv.Itoa(n%128), strconv.Itoa((n+1)%128)
				s := strconv.Itoa(i*10000 + n)
				x.send(s)
				x.in("I" + number + "," + next + tag + "=" + s)
				x.told("I"+number+","+number+tag+"="+s+" RR"+next+tag, "", api.Up)
				x.took(s + ";")
			}
			x.counts(3000, 3000, 0)
		})
	}
	joined.Wait()
}
