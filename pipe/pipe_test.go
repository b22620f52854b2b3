package pipe

import (
	"bytes"
	"math"
	"math/rand"
	"slices"
	"sync"
	"testing"

	"signalman/api"
)

const top = 1 << 20

// rooms holds for each number given to New how many octets the pipe holds.
var rooms = []struct{ given, room int }{
	{0, 0}, {1, 1}, {2, 2}, {7, 7}, {1000, 1000}, {65536, 65536},
	{-1, 0}, {-2, 0}, {-top, 0}, {math.MinInt32, 0}, {math.MinInt + 1, 0}, {math.MinInt, 0},
	{top - 1, top - 1}, {top, top}, {top + 1, top}, {top + 2, top}, {2 * top, top}, {math.MaxInt32, top}, {math.MaxInt - 1, top}, {math.MaxInt, top},
}

// strangers holds numbers that are no kind of fault.
var strangers = []int{-1, -2, -3, 6, 7, 8, 255, 256, 257, math.MinInt32, math.MinInt, math.MaxInt32, math.MaxInt, 1 << 32, 1<<32 + 1, 1<<32 + 3}

func put(t *testing.T, p *Pipe, b string, want int) {
	t.Helper()
	if got := p.Put([]byte(b)); got != want {
		t.Errorf("Put(%q) = %d, want %d", b, got, want)
	}
}

func take(t *testing.T, p *Pipe, n int, want string) {
	t.Helper()
	if got := p.Take(n); string(got) != want {
		t.Errorf("Take(%d) = %q, want %q", n, got, want)
	}
}

func wantLen(t *testing.T, p *Pipe, want int) {
	t.Helper()
	if got := p.Len(); got != want {
		t.Errorf("Len() = %d, want %d", got, want)
	}
}

func fault(t *testing.T, p *Pipe, kind, n int, c byte, want bool) {
	t.Helper()
	if got := p.Fault(kind, n, c); got != want {
		t.Errorf("Fault(%d, %d, %q) = %t, want %t", kind, n, c, got, want)
	}
}

// wantAll checks all that a pipe holds, and empties it.
func wantAll(t *testing.T, p *Pipe, want string) {
	t.Helper()
	wantLen(t, p, len(want))
	take(t, p, len(want), want)
	wantLen(t, p, 0)
	take(t, p, top, "")
}

// filled returns a pipe that holds b. Other octets were there before, so that what is in front of b in memory is seen if it comes back.
func filled(t *testing.T, room int, b string) *Pipe {
	t.Helper()
	p := New(room)
	before := min(room, 3)
	put(t, p, "xyz"[:before], before)
	take(t, p, before, "xyz"[:before])
	put(t, p, b, len(b))
	return p
}

// octets returns n octets that do not repeat soon, so that one out of its place is noticed.
func octets(n int) []byte {
	b := make([]byte, n)
	for i := range b {
		b[i] = byte(i%251) ^ byte(i/251)
	}
	return b
}

func TestP801TheExample(t *testing.T) {
	for _, n := range []int{0, 1, 5, top, -1, math.MinInt, math.MaxInt} {
		take(t, New(8), n, "")
	}
}

func TestP801ANewPipe(t *testing.T) {
	for _, r := range rooms {
		p := New(r.given)
		wantLen(t, p, 0)
		take(t, p, top, "")
		fault(t, p, api.FWrite, 0, 'c', false)
		fault(t, p, api.FErase, 1, 'c', true)
		wantLen(t, p, 0)
	}
	// It is neither cut nor stalled.
	p := New(3)
	put(t, p, "ab", 2)
	wantLen(t, p, 2)
	take(t, p, 2, "ab")
}

func TestP801TheRoomIsLimited(t *testing.T) {
	for _, r := range rooms {
		for _, more := range []int{-1, 0, 1, 5} {
			b := octets(max(r.room+more, 0))
			want := min(len(b), r.room)
			p := New(r.given)
			if got := p.Put(b); got != want {
				t.Errorf("New(%d): Put of %d octets = %d", r.given, len(b), got)
			}
			wantLen(t, p, want)
			// Where there is room for one octet more, it comes in ahead of the others and goes again.
			fault(t, p, api.FInsert, 0, 'c', want < r.room)
			fault(t, p, api.FErase, p.Len()-want, 0, true)
			if got := p.Take(top + 1); !bytes.Equal(got, b[:want]) {
				t.Errorf("New(%d): the %d octets that were put came out as %d others", r.given, want, len(got))
			}
			wantLen(t, p, 0)
		}
	}
}

func TestP801APipeWithoutRoom(t *testing.T) {
	p := New(0)
	put(t, p, "", 0)
	put(t, p, "a", 0)
	wantLen(t, p, 0)
	fault(t, p, api.FInsert, 0, 'c', false)
	fault(t, p, api.FCut, 0, 0, true)
	put(t, p, "abc", 3)
	fault(t, p, api.FInsert, 0, 'c', false)
	fault(t, p, api.FMend, 0, 0, true)
	put(t, p, "abc", 0)
	wantAll(t, p, "")
}

func TestP801PutAddsWhatThereIsRoomFor(t *testing.T) {
	for _, c := range []struct {
		held, b string
		added   int
	}{
		{"", "", 0}, {"", "1", 1}, {"", "12345", 5}, {"", "123456", 5}, {"", "1234567890", 5},
		{"abc", "", 0}, {"abc", "1", 1}, {"abc", "12", 2}, {"abc", "123", 2}, {"abc", "1234567", 2},
		{"abcd", "1", 1}, {"abcd", "12", 1}, {"abcde", "", 0}, {"abcde", "1", 0}, {"abcde", "123456", 0},
	} {
		p := filled(t, 5, c.held)
		put(t, p, c.b, c.added)
		wantAll(t, p, c.held+c.b[:c.added])
		// What was refused is not added later.
		put(t, p, "z", 1)
		wantAll(t, p, "z")
	}
}

func TestP801PutOfNothing(t *testing.T) {
	for _, b := range [][]byte{nil, {}, make([]byte, 0, 9)} {
		for _, held := range []string{"", "ab", "abcd"} {
			p := filled(t, 4, held)
			if got := p.Put(b); got != 0 {
				t.Errorf("Put of nothing = %d", got)
			}
			fault(t, p, api.FCut, 0, 0, true)
			if got := p.Put(b); got != 0 {
				t.Errorf("cut: Put of nothing = %d", got)
			}
			wantAll(t, p, held)
		}
	}
}

func TestP801Take(t *testing.T) {
	for _, c := range []struct {
		n           int
		taken, rest string
	}{
		{-1, "", "abcde"}, {-5, "", "abcde"}, {math.MinInt32, "", "abcde"}, {math.MinInt, "", "abcde"},
		{0, "", "abcde"}, {1, "a", "bcde"}, {3, "abc", "de"}, {4, "abcd", "e"}, {5, "abcde", ""},
		{6, "abcde", ""}, {8, "abcde", ""}, {9, "abcde", ""}, {top, "abcde", ""}, {math.MaxInt32, "abcde", ""}, {math.MaxInt, "abcde", ""},
	} {
		p := filled(t, 8, "abcde")
		take(t, p, c.n, c.taken)
		wantAll(t, p, c.rest)
	}
}

func TestP801TakenOctetsMakeRoom(t *testing.T) {
	p := New(4)
	put(t, p, "abcd", 4)
	take(t, p, 1, "a")
	put(t, p, "ef", 1)
	put(t, p, "g", 0)
	take(t, p, 3, "bcd")
	put(t, p, "hijk", 3)
	wantAll(t, p, "ehij")
	put(t, p, "12345", 4)
	wantAll(t, p, "1234")
}

func TestP801LenChangesNothing(t *testing.T) {
	p := New(5)
	for _, held := range []string{"", "a", "ab", "abc", "abcd", "abcde"} {
		for range 4 {
			wantLen(t, p, len(held))
		}
		put(t, p, "abcdef"[len(held):][:1], min(1, 5-len(held)))
	}
	wantAll(t, p, "abcde")
}

// Many times the room goes through, so that no place is used only once.
func TestP801TheOrderIsKept(t *testing.T) {
	for _, room := range []int{1, 2, 3, 7, 64, 1000} {
		random := rand.New(rand.NewSource(int64(room)))
		p, all := New(room), octets(40*room)
		given, taken := 0, 0
		for round := 0; taken < len(all); round++ {
			if round > 1000*room {
				t.Fatalf("room %d: only %d octets came out", room, taken)
			}
			b := all[given:min(given+random.Intn(room+2), len(all))]
			want := min(len(b), room-(given-taken))
			if got := p.Put(b); got != want {
				t.Fatalf("room %d: Put of %d octets to %d = %d", room, len(b), given-taken, got)
			}
			given += want
			got := p.Take(random.Intn(room + 2))
			if !bytes.Equal(got, all[taken:taken+len(got)]) {
				t.Fatalf("room %d: after %d octets: %.20X", room, taken, got)
			}
			taken += len(got)
			wantLen(t, p, given-taken)
		}
	}
}

func TestP801AFullPipeOctetByOctet(t *testing.T) {
	p, all := New(top), octets(2*top)
	for i := range top {
		if p.Put(all[i:i+1]) != 1 {
			t.Fatalf("Put of octet %d", i)
		}
	}
	for i := range top {
		if p.Put(all[:1]) != 0 {
			t.Fatalf("Put to a full pipe, after %d octets", i)
		}
		if got := p.Take(1); len(got) != 1 || got[0] != all[i] {
			t.Fatalf("Take of octet %d: %X", i, got)
		}
		if p.Put(all[top+i:top+i+1]) != 1 || p.Len() != top {
			t.Fatalf("Put of octet %d: %d are held", top+i, p.Len())
		}
	}
	if got := p.Take(top); !bytes.Equal(got, all[top:]) {
		t.Error("the octets that were put while others were taken came out otherwise")
	}
}

func TestP801ACutPipe(t *testing.T) {
	p := filled(t, 6, "abcd")
	fault(t, p, api.FCut, 0, 0, true)
	wantLen(t, p, 4)
	for _, b := range []string{"", "1", "12", "123", "123456", "1234567", "12345678901234567890"} {
		put(t, p, b, len(b))
		wantLen(t, p, 4)
	}
	take(t, p, 3, "abc")
	put(t, p, "1", 1)
	wantAll(t, p, "d")
	put(t, p, "12", 2)
	wantAll(t, p, "")
	// What was lost does not come back.
	fault(t, p, api.FMend, 0, 0, true)
	wantLen(t, p, 0)
	put(t, p, "1234567", 6)
	wantAll(t, p, "123456")
}

func TestP801AFullPipeThatIsCut(t *testing.T) {
	p := filled(t, 3, "abc")
	put(t, p, "d", 0)
	fault(t, p, api.FCut, 0, 0, true)
	put(t, p, "d", 1)
	if got := p.Put(make([]byte, top+9)); got != top+9 {
		t.Errorf("Put = %d", got)
	}
	wantAll(t, p, "abc")
}

func TestP801AStalledPipe(t *testing.T) {
	p := filled(t, 6, "abcd")
	fault(t, p, api.FStall, 0, 0, true)
	for _, n := range []int{0, 1, 4, 5, top, math.MaxInt, -1, math.MinInt} {
		take(t, p, n, "")
		wantLen(t, p, 4)
	}
	put(t, p, "1", 1)
	wantLen(t, p, 5)
	put(t, p, "23", 1)
	put(t, p, "3", 0)
	wantLen(t, p, 6)
	take(t, p, 6, "")
	fault(t, p, api.FMend, 0, 0, true)
	wantAll(t, p, "abcd12")
}

func TestP801CutAndStalled(t *testing.T) {
	for _, kinds := range [][]int{{api.FCut, api.FStall}, {api.FStall, api.FCut}, {api.FCut, api.FStall, api.FStall, api.FCut, api.FCut}} {
		p := filled(t, 6, "abcd")
		for _, kind := range kinds {
			fault(t, p, kind, 0, 0, true)
		}
		put(t, p, "123", 3)
		put(t, p, "1", 1)
		take(t, p, 2, "")
		wantLen(t, p, 4)
		fault(t, p, api.FMend, 0, 0, true)
		take(t, p, 2, "ab")
		put(t, p, "5", 1)
		wantAll(t, p, "cd5")
	}
}

// One FMend ends all, however often the pipe was cut and stalled before, and also if it was not.
func TestP801Mend(t *testing.T) {
	for _, kinds := range [][]int{
		{}, {api.FMend}, {api.FCut}, {api.FStall}, {api.FCut, api.FCut}, {api.FStall, api.FStall},
		{api.FCut, api.FStall}, {api.FStall, api.FCut}, {api.FCut, api.FMend, api.FStall}, {api.FStall, api.FMend, api.FCut},
	} {
		for _, n := range []int{0, 1, 2, -1, math.MinInt, math.MaxInt} {
			p := filled(t, 5, "abc")
			for _, kind := range kinds {
				fault(t, p, kind, 0, 0, true)
			}
			fault(t, p, api.FMend, n, 'z', true)
			wantLen(t, p, 3)
			put(t, p, "def", 2)
			take(t, p, 1, "a")
			wantAll(t, p, "bcde")
		}
	}
}

// After a fault was mended, only the next one counts.
func TestP801OneFaultAfterAnother(t *testing.T) {
	p := filled(t, 5, "abc")
	fault(t, p, api.FCut, 0, 0, true)
	fault(t, p, api.FMend, 0, 0, true)
	fault(t, p, api.FStall, 0, 0, true)
	put(t, p, "d", 1)
	wantLen(t, p, 4)
	take(t, p, 1, "")
	fault(t, p, api.FMend, 0, 0, true)
	fault(t, p, api.FCut, 0, 0, true)
	put(t, p, "efg", 3)
	wantAll(t, p, "abcd")
}

// FCut and FStall use neither n nor c.
func TestP801CuttingAndStallingChangeNoOctets(t *testing.T) {
	for _, kind := range []int{api.FCut, api.FStall} {
		for _, n := range []int{-1, 0, 1, 2, 3, 4, math.MinInt, math.MaxInt} {
			p := filled(t, 5, "abc")
			fault(t, p, kind, n, 'z', true)
			wantLen(t, p, 3)
			fault(t, p, api.FMend, n, 'z', true)
			wantAll(t, p, "abc")
		}
	}
}

func TestP801Erase(t *testing.T) {
	for _, c := range []struct {
		n    int
		rest string
	}{
		{-1, "abcde"}, {-5, "abcde"}, {math.MinInt32, "abcde"}, {math.MinInt, "abcde"},
		{0, "abcde"}, {1, "bcde"}, {3, "de"}, {4, "e"}, {5, ""},
		{6, ""}, {8, ""}, {9, ""}, {top, ""}, {math.MaxInt32, ""}, {math.MaxInt, ""},
	} {
		for _, kind := range []int{api.FMend, api.FCut, api.FStall} {
			p := filled(t, 8, "abcde")
			fault(t, p, kind, 0, 0, true)
			fault(t, p, api.FErase, c.n, 'z', true)
			wantLen(t, p, len(c.rest))
			fault(t, p, api.FMend, 0, 0, true)
			// There is room for what was erased, and no more.
			put(t, p, "12345678", 8-len(c.rest))
			wantAll(t, p, c.rest+"12345678"[:8-len(c.rest)])
		}
	}
}

func TestP801Write(t *testing.T) {
	for _, c := range []struct {
		n    int
		want string
	}{
		{0, "zbcde"}, {1, "azcde"}, {3, "abcze"}, {4, "abcdz"},
		{5, ""}, {6, ""}, {7, ""}, {8, ""}, {top, ""}, {math.MaxInt, ""},
		{-1, ""}, {-2, ""}, {-5, ""}, {math.MinInt32, ""}, {math.MinInt, ""},
	} {
		for _, room := range []int{5, 6, 40} {
			for _, kind := range []int{api.FMend, api.FCut, api.FStall} {
				p := filled(t, room, "abcde")
				fault(t, p, kind, 0, 0, true)
				fault(t, p, api.FWrite, c.n, 'z', c.want != "")
				fault(t, p, api.FMend, 0, 0, true)
				if c.want != "" {
					wantAll(t, p, c.want)
				} else {
					wantAll(t, p, "abcde")
				}
			}
		}
	}
}

// An octet that was taken or erased has no index any more, though memory may still hold it.
func TestP801WriteCountsFromTheFirstOctetThatIsLeft(t *testing.T) {
	p := New(6)
	put(t, p, "abcdef", 6)
	take(t, p, 2, "ab")
	fault(t, p, api.FErase, 1, 0, true)
	fault(t, p, api.FWrite, 0, '0', true)
	fault(t, p, api.FWrite, 2, '2', true)
	fault(t, p, api.FWrite, 3, '3', false)
	fault(t, p, api.FWrite, -1, '9', false)
	fault(t, p, api.FInsert, 3, '3', true)
	fault(t, p, api.FInsert, 0, 'n', true)
	wantAll(t, p, "n0e23")
	fault(t, p, api.FWrite, 0, 'z', false)
	wantAll(t, p, "")
}

func TestP801WriteOfEveryOctet(t *testing.T) {
	for c := range 256 {
		p := filled(t, 3, "abc")
		fault(t, p, api.FWrite, 1, byte(c), true)
		fault(t, p, api.FErase, 1, 0, true)
		fault(t, p, api.FInsert, 2, byte(c), true)
		wantAll(t, p, string([]byte{byte(c), 'c', byte(c)}))
	}
}

func TestP801Insert(t *testing.T) {
	for _, c := range []struct {
		n    int
		want string
	}{
		{0, "zabcde"}, {1, "azbcde"}, {3, "abczde"}, {4, "abcdze"}, {5, "abcdez"},
		{6, ""}, {7, ""}, {8, ""}, {top, ""}, {math.MaxInt, ""},
		{-1, ""}, {-2, ""}, {-5, ""}, {math.MinInt32, ""}, {math.MinInt, ""},
	} {
		for _, room := range []int{5, 6, 7, 40} {
			for _, kind := range []int{api.FMend, api.FCut, api.FStall} {
				p := filled(t, room, "abcde")
				fault(t, p, kind, 0, 0, true)
				added := c.want != "" && room > 5
				fault(t, p, api.FInsert, c.n, 'z', added)
				fault(t, p, api.FMend, 0, 0, true)
				if added {
					wantAll(t, p, c.want)
				} else {
					wantAll(t, p, "abcde")
				}
			}
		}
	}
}

func TestP801InsertFillsThePipe(t *testing.T) {
	p := New(3)
	fault(t, p, api.FInsert, 1, 'b', false)
	fault(t, p, api.FInsert, -1, 'b', false)
	fault(t, p, api.FInsert, 0, 'b', true)
	fault(t, p, api.FInsert, 2, 'c', false)
	fault(t, p, api.FInsert, 1, 'c', true)
	fault(t, p, api.FInsert, 0, 'a', true)
	for n := -1; n <= 4; n++ {
		fault(t, p, api.FInsert, n, 'z', false)
		wantLen(t, p, 3)
	}
	put(t, p, "d", 0)
	take(t, p, 1, "a")
	fault(t, p, api.FInsert, 2, 'd', true)
	fault(t, p, api.FInsert, 3, 'e', false)
	fault(t, p, api.FErase, 1, 0, true)
	fault(t, p, api.FInsert, 0, 'B', true)
	wantAll(t, p, "Bcd")
}

func TestP801OtherKinds(t *testing.T) {
	for _, kind := range strangers {
		for _, n := range []int{-1, 0, 1, 2, 3, math.MinInt, math.MaxInt} {
			p := filled(t, 4, "abc")
			fault(t, p, kind, n, 'z', false)
			wantLen(t, p, 3)
			put(t, p, "de", 1)
			take(t, p, 1, "a")
			wantAll(t, p, "bcd")
		}
	}
}

// refused holds faults for which a pipe with 3 octets and no room for more returns false.
var refused = []struct{ kind, n int }{
	{api.FWrite, -1}, {api.FWrite, 3}, {api.FWrite, 4}, {api.FWrite, math.MinInt}, {api.FWrite, math.MaxInt},
	{api.FInsert, -1}, {api.FInsert, 0}, {api.FInsert, 1}, {api.FInsert, 2}, {api.FInsert, 3}, {api.FInsert, 4}, {api.FInsert, math.MinInt}, {api.FInsert, math.MaxInt},
	{-1, 0}, {-1, 1}, {6, 0}, {6, 1}, {math.MinInt, 1}, {math.MaxInt, 1},
}

// Neither the octets nor the room nor cutting and stalling change where a fault is refused.
func TestP801NothingChangesByWhatIsRefused(t *testing.T) {
	for _, kinds := range [][]int{{}, {api.FCut}, {api.FStall}, {api.FCut, api.FStall}} {
		for _, r := range refused {
			p := filled(t, 3, "abc")
			for _, kind := range kinds {
				fault(t, p, kind, 0, 0, true)
			}
			cut, stalled := slices.Contains(kinds, api.FCut), slices.Contains(kinds, api.FStall)
			fault(t, p, r.kind, r.n, 'z', false)
			wantLen(t, p, 3)
			if stalled {
				take(t, p, 3, "")
			}
			if cut {
				put(t, p, "1234", 4)
			} else {
				put(t, p, "1", 0)
			}
			fault(t, p, api.FMend, 0, 0, true)
			wantAll(t, p, "abc")
			put(t, p, "1234", 3)
			wantAll(t, p, "123")
		}
	}
}

// model keeps the octets as numbers and works one octet at a time.
type model struct {
	room   int
	line   []int
	broken map[int]int
}

func newModel(room int) *model {
	switch {
	case room < 0:
		room = 0
	case room > top:
		room = top
	}
	return &model{room: room, broken: map[int]int{}}
}

func (m *model) put(b []byte) int {
	if m.broken[api.FCut] > 0 {
		return len(b)
	}
	added := 0
	for _, c := range b {
		if len(m.line) == m.room {
			break
		}
		m.line = append(m.line, int(c))
		added++
	}
	return added
}

func (m *model) first(n int) []byte {
	var b []byte
	for len(b) < n && len(m.line) > 0 {
		b = append(b, byte(m.line[0]))
		m.line = slices.Clone(m.line[1:])
	}
	return b
}

func (m *model) take(n int) []byte {
	if m.broken[api.FStall] > 0 {
		return nil
	}
	return m.first(n)
}

func (m *model) fault(kind, n int, c byte) bool {
	switch kind {
	case api.FMend:
		clear(m.broken)
		return true
	case api.FCut, api.FStall:
		m.broken[kind]++
		return true
	case api.FErase:
		m.first(n)
		return true
	case api.FWrite, api.FInsert:
		return m.change(kind, n, int(c))
	}
	return false
}

func (m *model) change(kind, n, c int) bool {
	var line []int
	found := false
	for i := 0; i <= len(m.line); i++ {
		if i == n && (kind == api.FInsert || i < len(m.line)) {
			line, found = append(line, c), true
		}
		if i < len(m.line) && (i != n || kind == api.FInsert) {
			line = append(line, m.line[i])
		}
	}
	if !found || len(line) > m.room {
		return false
	}
	m.line = line
	return true
}

// act does the same with a pipe and its model.
func act(t *testing.T, random *rand.Rand, p *Pipe, m *model) {
	t.Helper()
	n := random.Intn(m.room+6) - 3
	switch random.Intn(5) {
	case 0, 1:
		b := make([]byte, random.Intn(m.room+3))
		random.Read(b)
		if got, want := p.Put(b), m.put(b); got != want {
			t.Fatalf("Put(%X) = %d, want %d", b, got, want)
		}
	case 2, 3:
		if got, want := p.Take(n), m.take(n); !bytes.Equal(got, want) {
			t.Fatalf("Take(%d) = %X, want %X", n, got, want)
		}
	default:
		kind, c := random.Intn(10)-1, byte(random.Intn(256))
		if got, want := p.Fault(kind, n, c), m.fault(kind, n, c); got != want {
			t.Fatalf("Fault(%d, %d, %X) = %t, want %t", kind, n, c, got, want)
		}
	}
	if got, want := p.Len(), len(m.line); got != want {
		t.Fatalf("Len() = %d, want %d", got, want)
	}
}

// same compares all that is left in a pipe and in its model, and empties both.
func same(t *testing.T, p *Pipe, m *model) {
	t.Helper()
	p.Fault(api.FMend, 0, 0)
	m.fault(api.FMend, 0, 0)
	if got, want := p.Take(top), m.take(top); !bytes.Equal(got, want) {
		t.Fatalf("what is left is %X, want %X", got, want)
	}
	if p.Len() != 0 {
		t.Fatalf("after all was taken: Len() = %d", p.Len())
	}
}

func TestP801RandomCalls(t *testing.T) {
	random := rand.New(rand.NewSource(801))
	for _, room := range []int{0, 1, 2, 3, 5, 8, 33, 200} {
		for range 40 {
			p, m := New(room), newModel(room)
			for range 300 {
				act(t, random, p, m)
			}
			same(t, p, m)
		}
	}
}

// calls holds one call of each kind that makes a difference to a pipe with room for two octets.
var calls = []struct{ kind, n int }{
	{-2, 1}, {-2, 2}, {-1, 1}, {-1, 2}, {api.FMend, 0}, {api.FCut, 0}, {api.FStall, 0},
	{api.FErase, 1}, {api.FWrite, 0}, {api.FWrite, 1}, {api.FInsert, 0}, {api.FInsert, 1},
}

// replay makes the calls with the given places in the list, with octets that all differ.
func replay(t *testing.T, places []int) {
	t.Helper()
	p, m := New(2), newModel(2)
	for i, place := range places {
		c := calls[place]
		b := []byte{byte(2*i + 1), byte(2*i + 2)}
		agree := true
		switch c.kind {
		case -2:
			agree = p.Put(b[:c.n]) == m.put(b[:c.n])
		case -1:
			agree = bytes.Equal(p.Take(c.n), m.take(c.n))
		default:
			agree = p.Fault(c.kind, c.n, b[0]) == m.fault(c.kind, c.n, b[0])
		}
		if !agree || p.Len() != len(m.line) {
			t.Fatalf("calls %v: the result of call %d is wrong", places, i)
		}
	}
	same(t, p, m)
}

func TestP801AllShortSequencesOfCalls(t *testing.T) {
	for length := 1; length <= 5; length++ {
		places := make([]int, length)
		for {
			replay(t, places)
			i := 0
			for i < length && places[i] == len(calls)-1 {
				places[i] = 0
				i++
			}
			if i == length {
				break
			}
			places[i]++
		}
	}
}

func TestP802TwoPipesByTurns(t *testing.T) {
	random := rand.New(rand.NewSource(802))
	for _, room := range []int{1, 3, 20, 100} {
		for range 40 {
			// Equal rooms, so that pipes that share something are not told apart by them.
			pipes := [2]*Pipe{New(room), New(room)}
			models := [2]*model{newModel(room), newModel(room)}
			for range 400 {
				i := random.Intn(2)
				act(t, random, pipes[i], models[i])
				if other := 1 - i; pipes[other].Len() != len(models[other].line) {
					t.Fatalf("the other pipe's Len() = %d, want %d", pipes[other].Len(), len(models[other].line))
				}
			}
			same(t, pipes[0], models[0])
			same(t, pipes[1], models[1])
		}
	}
}

func TestP802NewReturnsPipesOfTheirOwn(t *testing.T) {
	a, b := New(4), New(4)
	if a == nil || b == nil || a == b {
		t.Fatalf("New: %p, %p", a, b)
	}
	put(t, a, "abc", 3)
	wantLen(t, b, 0)
	take(t, b, 3, "")
	put(t, b, "1234", 4)
	fault(t, a, api.FCut, 0, 0, true)
	fault(t, a, api.FStall, 0, 0, true)
	take(t, b, 1, "1")
	put(t, b, "56", 1)
	fault(t, b, api.FMend, 0, 0, true)
	put(t, a, "def", 3)
	take(t, a, 3, "")
	fault(t, b, api.FWrite, 0, 'z', true)
	fault(t, b, api.FErase, 2, 0, true)
	fault(t, b, api.FInsert, 2, 'y', true)
	fault(t, a, api.FMend, 0, 0, true)
	wantAll(t, a, "abc")
	wantAll(t, b, "45y")
	wantAll(t, New(4), "")
}

// Octets that go from one pipe to the next are memory of the next one only.
func TestP802FromPipeToPipe(t *testing.T) {
	a, b := New(10), New(10)
	put(t, a, "abcdef", 6)
	taken := a.Take(4)
	b.Put(taken)
	clear(taken[:cap(taken)])
	fault(t, a, api.FInsert, 0, '1', true)
	fault(t, b, api.FWrite, 3, '2', true)
	fault(t, b, api.FInsert, 4, '3', true)
	wantAll(t, a, "1ef")
	wantAll(t, b, "abc23")
}

// guarded returns b as a slice with spare capacity, and all the memory that it is a part of.
func guarded(b string) ([]byte, []byte) {
	memory := slices.Concat([]byte("<<<<"), []byte(b), []byte(">>>>>>>>"))
	return memory[4 : 4+len(b)], memory
}

func TestP802PutNeitherModifiesNorKeepsItsArgument(t *testing.T) {
	for _, held := range []string{"", "ab", "abcdefgh"} {
		for _, room := range []int{8, 9, 10, 12, 30} {
			p := filled(t, room, held)
			b, memory := guarded("1234")
			before := slices.Clone(memory)
			n := p.Put(b)
			put(t, p, "567", min(3, room-len(held)-n))
			if p.Len() > len(held) {
				fault(t, p, api.FWrite, len(held), 'z', true)
			}
			p.Fault(api.FInsert, len(held), 'y')
			fault(t, p, api.FErase, len(held), 0, true)
			if !bytes.Equal(memory, before) {
				t.Errorf("room %d, %q: the argument of Put became %q", room, held, memory)
			}
			clear(memory)
			got := p.Take(room)
			if bytes.IndexByte(got, 0) >= 0 {
				t.Errorf("room %d, %q: writing to the argument changed what the pipe holds: %q", room, held, got)
			}
			if len(got) > 0 {
				clear(got[:cap(got)])
			}
		}
	}
}

func TestP802ACutPipeDoesNotKeepTheArgumentOfPut(t *testing.T) {
	p := filled(t, 9, "ab")
	fault(t, p, api.FCut, 0, 0, true)
	b, memory := guarded("1234")
	before := slices.Clone(memory)
	if p.Put(b) != 4 {
		t.Error("Put to a cut pipe")
	}
	fault(t, p, api.FInsert, 2, 'c', true)
	if !bytes.Equal(memory, before) {
		t.Errorf("the argument of Put became %q", memory)
	}
	wantAll(t, p, "abc")
}

// What is done to a result, its spare capacity included, is not seen in the pipe or in other results, and the other way round.
func TestP802ResultsOfTakeAreNewlyAllocated(t *testing.T) {
	for _, n := range []int{1, 2, 3, 5, 8, 9, 17, 40} {
		p, all := New(100), octets(100)
		p.Put(all)
		var results [][]byte
		at := 0
		for at+n <= 90 {
			got := p.Take(n)
			if !bytes.Equal(got, all[at:at+n]) {
				t.Fatalf("Take(%d) after %d: %X, want %X", n, at, got, all[at:at+n])
			}
			results = append(results, got)
			at += n
			for i, c := range got {
				got[i] = ^c
			}
			clear(got[n:cap(got)])
			_ = append(got, 0xAA, 0xBB)
		}
		fault(t, p, api.FWrite, 0, 'w', true)
		fault(t, p, api.FInsert, 0, 'i', true)
		p.Put(bytes.Repeat([]byte{'p'}, 100))
		for k, got := range results {
			for i, c := range got {
				if c != ^all[k*n+i] {
					t.Fatalf("n %d: result %d became %X", n, k, got)
				}
			}
		}
		want := slices.Concat([]byte("iw"), all[at+1:], bytes.Repeat([]byte{'p'}, at-1))
		if got := p.Take(100); !bytes.Equal(got, want) {
			t.Fatalf("n %d: the rest is %X, want %X", n, got, want)
		}
	}
}

// A result without octets has no memory of the pipe behind it either.
func TestP802EmptyResultsOfTake(t *testing.T) {
	for _, kind := range []int{api.FMend, api.FStall} {
		for _, n := range []int{0, -1, math.MinInt} {
			p := filled(t, 9, "abcd")
			fault(t, p, kind, 0, 0, true)
			got := p.Take(n)
			_ = append(got, "zzzz"...)
			clear(got[:cap(got)])
			fault(t, p, api.FMend, 0, 0, true)
			wantAll(t, p, "abcd")
			got = p.Take(4)
			put(t, p, "ab", 2)
			_ = append(got, "zzzz"...)
			clear(got[:cap(got)])
			wantAll(t, p, "ab")
		}
	}
}

func TestP802ResultsDoNotDependOnCallsAtTheSameTime(t *testing.T) {
	var joined sync.WaitGroup
	for worker := range 4 {
		joined.Go(func() {
			random := rand.New(rand.NewSource(int64(worker)))
			p, m := New(20), newModel(20)
			for range 3000 {
				b := octets(random.Intn(25))
				n, kind, c := random.Intn(22), random.Intn(8), byte(random.Intn(256))
				if got, want := p.Put(b), m.put(b); got != want {
					t.Errorf("worker %d: Put of %d octets = %d, want %d", worker, len(b), got, want)
				}
				if got, want := p.Fault(kind, n, c), m.fault(kind, n, c); got != want {
					t.Errorf("worker %d: Fault(%d, %d, %X) = %t", worker, kind, n, c, got)
				}
				if got, want := p.Take(n), m.take(n); !bytes.Equal(got, want) {
					t.Errorf("worker %d: Take(%d) = %X, want %X", worker, n, got, want)
				}
			}
		})
	}
	joined.Wait()
}
