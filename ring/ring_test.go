package ring

import (
	"bytes"
	"math"
	"math/rand"
	"slices"
	"sync"
	"testing"

	"signalman/api"
)

const top = 1 << 20

// rooms holds for each number given to New how many octets the ring holds.
var rooms = []struct{ given, room int }{
	{0, 0}, {1, 1}, {2, 2}, {7, 7}, {1000, 1000}, {65536, 65536},
	{-1, 0}, {-2, 0}, {-top, 0}, {math.MinInt32, 0}, {-1 << 32, 0}, {math.MinInt + 1, 0}, {math.MinInt, 0},
	{top - 1, top - 1}, {top, top}, {top + 1, top}, {top + 2, top}, {2 * top, top}, {math.MaxInt32, top}, {1 << 32, top}, {1<<32 + 1, top}, {math.MaxInt - 1, top}, {math.MaxInt, top},
}

func add(t *testing.T, r *Ring, b string, want bool) {
	t.Helper()
	if got := r.Add([]byte(b)); got != want {
		t.Errorf("Add(%q) = %t, want %t", b, got, want)
	}
}

func take(t *testing.T, r *Ring, n int, want string) {
	t.Helper()
	if got := r.Take(n); string(got) != want {
		t.Errorf("Take(%d) = %q, want %q", n, got, want)
	}
}

func wantLen(t *testing.T, r *Ring, want int) {
	t.Helper()
	if got := r.Len(); got != want {
		t.Errorf("Len() = %d, want %d", got, want)
	}
}

func wantDropped(t *testing.T, r *Ring, want int) {
	t.Helper()
	if got := r.Dropped(); got != want {
		t.Errorf("Dropped() = %d, want %d", got, want)
	}
}

// wipe clears a ring, which removes some octets and leaves others.
func wipe(t *testing.T, r *Ring, removed, left int) {
	t.Helper()
	if got := r.Clear(); got != removed {
		t.Errorf("Clear() = %d, want %d", got, removed)
	}
	wantLen(t, r, left)
}

// wantAll checks all that a ring holds, and empties it.
func wantAll(t *testing.T, r *Ring, want string) {
	t.Helper()
	wantLen(t, r, len(want))
	take(t, r, len(want), want)
	wantLen(t, r, 0)
	take(t, r, top, "")
}

// filled returns a ring that holds pieces. Other octets were there before, so that what is in front of them in memory is seen if it comes back.
func filled(t *testing.T, room int, pieces ...string) *Ring {
	t.Helper()
	r := New(room)
	before := "xyz"[:min(room, 3)]
	add(t, r, before, true)
	take(t, r, len(before), before)
	for _, b := range pieces {
		add(t, r, b, true)
	}
	return r
}

// octets returns n octets that do not repeat soon, so that one out of its place is noticed.
func octets(n int) []byte {
	b := make([]byte, n)
	for i := range b {
		b[i] = byte(i%251) ^ byte(i/251)
	}
	return b
}

func TestP1101TheExample(t *testing.T) {
	for _, n := range []int{0, 1, 5, top, -1, math.MinInt, math.MaxInt} {
		take(t, New(8), n, "")
	}
}

func TestP1101ANewRing(t *testing.T) {
	for _, c := range rooms {
		r := New(c.given)
		wantLen(t, r, 0)
		wantDropped(t, r, 0)
		for _, n := range []int{math.MinInt, -1, 0, 1, top, math.MaxInt} {
			take(t, r, n, "")
			wantLen(t, r, 0)
		}
		for range 2 {
			wipe(t, r, 0, 0)
		}
		take(t, r, 1, "")
		wantDropped(t, r, 0)
	}
}

func TestP1101TheRoomIsLimited(t *testing.T) {
	for _, c := range rooms {
		for _, more := range []int{-1, 0, 1, 5} {
			b := octets(max(c.room+more, 0))
			fits := len(b) <= c.room
			r := New(c.given)
			if got := r.Add(b); got != fits {
				t.Errorf("New(%d): Add of %d octets = %t", c.given, len(b), got)
			}
			if !fits {
				b = nil
				wantDropped(t, r, 1)
			}
			wantLen(t, r, len(b))
			// What is left of the room takes a piece that fits exactly, and then not one octet more.
			left := octets(c.room - len(b))
			if !r.Add(left) || r.Len() != c.room {
				t.Errorf("New(%d): no room for %d octets beside %d", c.given, len(left), len(b))
			}
			before := r.Dropped()
			add(t, r, "z", false)
			wantDropped(t, r, before+1)
			wantLen(t, r, c.room)
			if got := r.Take(top + 1); !bytes.Equal(got, slices.Concat(b, left)) {
				t.Errorf("New(%d): the %d octets that were added came out as %d others", c.given, c.room, len(got))
			}
			wantLen(t, r, 0)
		}
	}
}

func TestP1101ARingWithoutRoom(t *testing.T) {
	for _, room := range []int{0, -1, math.MinInt} {
		r := New(room)
		add(t, r, "", true)
		wantDropped(t, r, 0)
		add(t, r, "a", false)
		wantDropped(t, r, 1)
		add(t, r, "abc", false)
		wantDropped(t, r, 2)
		add(t, r, "", true)
		wantDropped(t, r, 2)
		wipe(t, r, 0, 0)
		add(t, r, "a", false)
		wantDropped(t, r, 3)
		wantAll(t, r, "")
	}
}

func TestP1101AddTakesAllOrNothing(t *testing.T) {
	for _, c := range []struct {
		held, b string
		fits    bool
	}{
		{"", "", true}, {"", "1", true}, {"", "1234", true}, {"", "12345", true}, {"", "123456", false}, {"", "1234567890", false},
		{"abc", "", true}, {"abc", "1", true}, {"abc", "12", true}, {"abc", "123", false}, {"abc", "12345", false}, {"abc", "123456", false},
		{"abcd", "1", true}, {"abcd", "12", false}, {"abcde", "", true}, {"abcde", "1", false}, {"abcde", "12345", false}, {"abcde", "123456", false},
	} {
		r := filled(t, 5, c.held)
		add(t, r, c.b, c.fits)
		want := c.held
		if c.fits {
			wantDropped(t, r, 0)
			want += c.b
		} else {
			wantDropped(t, r, 1)
		}
		wantAll(t, r, want)
		// What was refused is not added later.
		add(t, r, "z", true)
		wantAll(t, r, "z")
	}
}

// A piece that was refused leaves no boundary behind: the pieces around it are cleared as if it had never been there.
func TestP1101ARefusedPieceChangesNothing(t *testing.T) {
	r := filled(t, 6, "abc")
	take(t, r, 1, "a")
	add(t, r, "12345", false)
	add(t, r, "1234567", false)
	wipe(t, r, 0, 2)
	add(t, r, "12345", false)
	add(t, r, "de", true)
	add(t, r, "123", false)
	take(t, r, 3, "bcd")
	add(t, r, "123456", false)
	wipe(t, r, 0, 1)
	wantAll(t, r, "e")
	wantDropped(t, r, 5)
}

func TestP1101PiecesWithoutOctets(t *testing.T) {
	for _, b := range [][]byte{nil, {}, make([]byte, 0, 9)} {
		for _, pieces := range [][]string{{}, {"ab"}, {"ab", "cd"}, {"abcd"}} {
			for _, taken := range []int{0, 1, 2} {
				r, held := filled(t, 4, pieces...), ""
				for _, p := range pieces {
					held += p
				}
				rest := held[min(taken, len(held)):]
				take(t, r, taken, held[:len(held)-len(rest)])
				for range 3 {
					if !r.Add(b) {
						t.Errorf("%q: no room for nothing", pieces)
					}
					wantLen(t, r, len(rest))
				}
				wantDropped(t, r, 0)
				wantAll(t, r, rest)
			}
		}
	}
}

// Pieces without octets before, between and behind others do not turn what Clear removes.
func TestP1101PiecesWithoutOctetsAreNoBoundaries(t *testing.T) {
	pieces := []string{"", "", "ab", "", "cd", "", ""}
	for _, c := range []struct{ taken, removed, left int }{{0, 4, 0}, {1, 2, 1}, {2, 2, 0}, {3, 0, 1}, {4, 0, 0}} {
		r := filled(t, 4, pieces...)
		take(t, r, c.taken, "abcd"[:c.taken])
		add(t, r, "", true)
		take(t, r, 0, "")
		wipe(t, r, c.removed, c.left)
		wantAll(t, r, "abcd"[c.taken:c.taken+c.left])
		add(t, r, "", true)
		wipe(t, r, 0, 0)
		add(t, r, "", true)
		add(t, r, "e", true)
		wipe(t, r, 1, 0)
		wantDropped(t, r, 0)
	}
}

// Any number of pieces without octets fits, and they take no memory.
func TestP1101ManyPiecesWithoutOctets(t *testing.T) {
	r := filled(t, 3, "ab")
	for range 1000 {
		add(t, r, "", true)
	}
	if len(r.whole) != 1 {
		t.Errorf("%d pieces are kept", len(r.whole))
	}
	wantAll(t, r, "ab")
}

func TestP1101DroppedCounts(t *testing.T) {
	r := New(4)
	for i := range 100 {
		wantDropped(t, r, i)
		add(t, r, "12345", false)
	}
	// Nothing but a piece for which there is no room is counted, and nothing takes the count back.
	add(t, r, "1234", true)
	wantDropped(t, r, 100)
	add(t, r, "", true)
	wantDropped(t, r, 100)
	take(t, r, 9, "1234")
	wantDropped(t, r, 100)
	add(t, r, "56", true)
	wipe(t, r, 2, 0)
	for range 3 {
		wantDropped(t, r, 100)
	}
	add(t, r, "12345", false)
	wantDropped(t, r, 101)
}

func TestP1101DroppedEndsAtMaxCount(t *testing.T) {
	r := filled(t, 2, "ab")
	r.dropped = api.MaxCount - 2
	for _, want := range []int{api.MaxCount - 1, api.MaxCount, api.MaxCount, api.MaxCount} {
		add(t, r, "c", false)
		wantDropped(t, r, want)
	}
	add(t, r, "", true)
	take(t, r, 1, "a")
	wipe(t, r, 0, 1)
	add(t, r, "c", true)
	wantDropped(t, r, api.MaxCount)
	add(t, r, "d", false)
	wantDropped(t, r, api.MaxCount)
	wantAll(t, r, "bc")
}

func TestP1101Take(t *testing.T) {
	for _, c := range []struct {
		n           int
		taken, rest string
	}{
		{-1, "", "abcdefg"}, {-7, "", "abcdefg"}, {math.MinInt32, "", "abcdefg"}, {math.MinInt, "", "abcdefg"},
		{0, "", "abcdefg"}, {1, "a", "bcdefg"}, {2, "ab", "cdefg"}, {3, "abc", "defg"}, {4, "abcd", "efg"}, {5, "abcde", "fg"}, {6, "abcdef", "g"}, {7, "abcdefg", ""},
		{8, "abcdefg", ""}, {9, "abcdefg", ""}, {top, "abcdefg", ""}, {math.MaxInt32, "abcdefg", ""}, {math.MaxInt - 1, "abcdefg", ""}, {math.MaxInt, "abcdefg", ""},
	} {
		for _, pieces := range [][]string{{"abcdefg"}, {"abc", "de", "fg"}, {"a", "b", "c", "d", "e", "f", "g"}, {"abc", "", "defg"}, {"abcdef", "g"}} {
			r := filled(t, 9, pieces...)
			take(t, r, c.n, c.taken)
			wantAll(t, r, c.rest)
		}
	}
}

func TestP1101TakeOneByOne(t *testing.T) {
	r, all := filled(t, 9, "abc", "de", "f", "ghi"), "abcdefghi"
	for i := range all {
		wantLen(t, r, len(all)-i)
		take(t, r, 0, "")
		take(t, r, -1, "")
		take(t, r, 1, all[i:i+1])
	}
	wantAll(t, r, "")
	add(t, r, all, true)
	wantAll(t, r, all)
}

func TestP1101TakenOctetsMakeRoom(t *testing.T) {
	r := New(4)
	add(t, r, "abcd", true)
	take(t, r, 1, "a")
	add(t, r, "ef", false)
	add(t, r, "e", true)
	add(t, r, "f", false)
	take(t, r, 3, "bcd")
	add(t, r, "1234", false)
	add(t, r, "hij", true)
	wantDropped(t, r, 3)
	wantAll(t, r, "ehij")
	add(t, r, "12345", false)
	add(t, r, "1234", true)
	wantAll(t, r, "1234")
}

func TestP1101ClearedOctetsMakeRoom(t *testing.T) {
	r := filled(t, 4, "abc", "d")
	add(t, r, "e", false)
	take(t, r, 1, "a")
	wipe(t, r, 1, 2)
	add(t, r, "123", false)
	add(t, r, "12", true)
	add(t, r, "3", false)
	wantAll(t, r, "bc12")
	add(t, r, "abcd", true)
	wipe(t, r, 4, 0)
	add(t, r, "12345", false)
	add(t, r, "1234", true)
	wantAll(t, r, "1234")
}

func TestP1101LenAndDroppedChangeNothing(t *testing.T) {
	r := New(5)
	for i := range 7 {
		for range 4 {
			wantLen(t, r, min(i, 5))
			wantDropped(t, r, max(i-5, 0))
		}
		add(t, r, "abcdefg"[i:i+1], i < 5)
	}
	wantAll(t, r, "abcde")
}

// TestP1101Clear takes octets of "abc", "de", "fghi" and clears the rest but for the piece that was taken in part.
func TestP1101Clear(t *testing.T) {
	for _, c := range []struct {
		taken int
		left  string
	}{
		{0, ""}, {1, "bc"}, {2, "c"}, {3, ""}, {4, "e"}, {5, ""}, {6, "ghi"}, {7, "hi"}, {8, "i"}, {9, ""},
	} {
		for _, most := range []int{1, 2, 3, 4, 9} {
			r, all := filled(t, 9, "abc", "de", "fghi"), "abcdefghi"
			// The octets are taken one by one, in twos, and so on, up to all at once.
			for at := 0; at < c.taken; {
				n := min(most, c.taken-at)
				take(t, r, n, all[at:at+n])
				at += n
			}
			wipe(t, r, 9-c.taken-len(c.left), len(c.left))
			// A second Clear finds nothing.
			wipe(t, r, 0, len(c.left))
			take(t, r, 0, "")
			wipe(t, r, 0, len(c.left))
			// What comes in then is a piece of its own, and goes when the other one stays.
			add(t, r, "123", true)
			add(t, r, "4", true)
			wipe(t, r, 4, len(c.left))
			add(t, r, "56", true)
			wantAll(t, r, c.left+"56")
			wantDropped(t, r, 0)
		}
	}
}

// Taking no octets, or none that there are, begins no piece.
func TestP1101TakingNothingBeginsNoPiece(t *testing.T) {
	for _, n := range []int{0, -1, math.MinInt} {
		r := filled(t, 9, "abc", "de")
		take(t, r, n, "")
		wipe(t, r, 5, 0)
		take(t, r, 1, "")
		add(t, r, "abc", true)
		wipe(t, r, 3, 0)
		add(t, r, "abc", true)
		add(t, r, "de", true)
		take(t, r, 3, "abc")
		take(t, r, n, "")
		wipe(t, r, 2, 0)
		wantAll(t, r, "")
	}
}

// The piece that was taken in part is left by a Clear, and again by the next one, until it is taken.
func TestP1101ClearTimeAndAgain(t *testing.T) {
	r := filled(t, 20, "abcdef", "gh")
	take(t, r, 1, "a")
	wipe(t, r, 2, 5)
	for _, c := range "bcde" {
		add(t, r, "12", true)
		add(t, r, "345", true)
		take(t, r, 1, string(c))
		wipe(t, r, 5, int('f'-c))
	}
	add(t, r, "12", true)
	add(t, r, "345", true)
	take(t, r, 1, "f")
	wipe(t, r, 5, 0)
	wantAll(t, r, "")
}

// The rest of a piece, and one octet of the next one, are taken at once, ahead of and behind a Clear.
func TestP1101ClearBehindTwoPieces(t *testing.T) {
	r := filled(t, 20, "abc", "def", "ghi")
	take(t, r, 2, "ab")
	take(t, r, 2, "cd")
	wipe(t, r, 3, 2)
	add(t, r, "jkl", true)
	add(t, r, "mno", true)
	take(t, r, 3, "efj")
	wipe(t, r, 3, 2)
	add(t, r, "p", true)
	add(t, r, "q", true)
	take(t, r, 3, "klp")
	wipe(t, r, 1, 0)
	wantAll(t, r, "")
}

func TestP1101PiecesOfOneOctet(t *testing.T) {
	r := filled(t, 5, "a", "b", "c", "d", "e")
	take(t, r, 2, "ab")
	wipe(t, r, 3, 0)
	add(t, r, "f", true)
	take(t, r, 1, "f")
	wipe(t, r, 0, 0)
	wantAll(t, r, "")
}

// Many times the room goes through, so that no place is used only once.
func TestP1101TheOrderIsKept(t *testing.T) {
	for _, room := range []int{1, 2, 3, 7, 64, 1000} {
		random := rand.New(rand.NewSource(int64(room)))
		r, all := New(room), octets(40*room)
		given, taken, refused := 0, 0, 0
		for round := 0; taken < len(all); round++ {
			if round > 1000*room {
				t.Fatalf("room %d: only %d octets came out", room, taken)
			}
			b := all[given:min(given+random.Intn(room+2), len(all))]
			fits := len(b) <= room-(given-taken)
			if got := r.Add(b); got != fits {
				t.Fatalf("room %d: Add of %d octets to %d = %t", room, len(b), given-taken, got)
			}
			if fits {
				given += len(b)
			} else {
				refused++
			}
			got := r.Take(random.Intn(room + 2))
			if !bytes.Equal(got, all[taken:taken+len(got)]) {
				t.Fatalf("room %d: after %d octets: %.20X", room, taken, got)
			}
			taken += len(got)
			wantLen(t, r, given-taken)
			wantDropped(t, r, refused)
		}
	}
}

func TestP1101AFullRingOctetByOctet(t *testing.T) {
	r, all := New(top), octets(2*top)
	for i := range top {
		if !r.Add(all[i : i+1]) {
			t.Fatalf("Add of octet %d", i)
		}
	}
	for i := range top {
		if r.Add(all[:1]) {
			t.Fatalf("Add to a full ring, after %d octets", i)
		}
		if got := r.Take(1); len(got) != 1 || got[0] != all[i] {
			t.Fatalf("Take of octet %d: %X", i, got)
		}
		if !r.Add(all[top+i:top+i+1]) || r.Len() != top {
			t.Fatalf("Add of octet %d: %d are held", top+i, r.Len())
		}
	}
	wantDropped(t, r, top)
	if got := r.Take(top / 2); !bytes.Equal(got, all[top:top+top/2]) {
		t.Error("the octets that were added while others were taken came out otherwise")
	}
	wipe(t, r, top/2, 0)
}

// A ring through which much goes does not grow.
func TestP1101MemoryIsLimited(t *testing.T) {
	r := New(100)
	for range 20000 {
		for r.Add([]byte("abcdefg")) {
		}
		r.Take(45)
		if cap(r.held) > 1000 || cap(r.whole) > 1000 {
			t.Fatalf("memory for %d octets and %d pieces", cap(r.held), cap(r.whole))
		}
	}
}

// model is a ring that keeps each piece, whole and with a mark where it was begun.
type model struct {
	room    int
	pieces  []piece
	dropped int
}

type piece struct {
	octets []byte
	taken  int
}

func (m *model) len() int {
	sum := 0
	for _, p := range m.pieces {
		sum += len(p.octets) - p.taken
	}
	return sum
}

func (m *model) add(b []byte) bool {
	if m.len()+len(b) > m.room {
		m.dropped++
		return false
	}
	m.pieces = append(m.pieces, piece{octets: slices.Clone(b)})
	return true
}

func (m *model) take(n int) []byte {
	var b []byte
	for i := range m.pieces {
		p := &m.pieces[i]
		for len(b) < n && p.taken < len(p.octets) {
			b = append(b, p.octets[p.taken])
			p.taken++
		}
	}
	return b
}

func (m *model) clear() int {
	before := m.len()
	m.pieces = slices.DeleteFunc(m.pieces, func(p piece) bool { return p.taken == 0 })
	return before - m.len()
}

// act does the same with a ring and its model.
func act(t *testing.T, random *rand.Rand, r *Ring, m *model) {
	t.Helper()
	switch random.Intn(9) {
	case 0, 1, 2, 3:
		b := make([]byte, random.Intn(m.room/(1+random.Intn(6))+3))
		random.Read(b)
		if got, want := r.Add(b), m.add(b); got != want {
			t.Fatalf("Add(%X) = %t, want %t", b, got, want)
		}
	case 4, 5, 6, 7:
		n := random.Intn(m.room/(1+random.Intn(6))+6) - 3
		if got, want := r.Take(n), m.take(n); !bytes.Equal(got, want) {
			t.Fatalf("Take(%d) = %X, want %X", n, got, want)
		}
	default:
		if got, want := r.Clear(), m.clear(); got != want {
			t.Fatalf("Clear() = %d, want %d", got, want)
		}
	}
	agree(t, r, m)
}

// agree compares what can be asked of a ring without turning it.
func agree(t *testing.T, r *Ring, m *model) {
	t.Helper()
	if r.Len() != m.len() || r.Dropped() != m.dropped {
		t.Fatalf("%d held and %d dropped, want %d and %d", r.Len(), r.Dropped(), m.len(), m.dropped)
	}
}

// same compares all that is left in a ring and in its model, and empties both.
func same(t *testing.T, r *Ring, m *model) {
	t.Helper()
	if got, want := r.Take(top), m.take(top); !bytes.Equal(got, want) {
		t.Fatalf("what is left is %X, want %X", got, want)
	}
	agree(t, r, m)
}

func TestP1101RandomCalls(t *testing.T) {
	random := rand.New(rand.NewSource(1101))
	for _, room := range []int{0, 1, 2, 3, 5, 8, 33, 200} {
		for range 60 {
			r, m := New(room), &model{room: room}
			for range 300 {
				act(t, random, r, m)
			}
			same(t, r, m)
		}
	}
}

// replay makes the calls with the given numbers: 0 to 4 octets are added, or 1 to 3 taken, or the ring is cleared. The octets all differ.
func replay(t *testing.T, calls []int) {
	t.Helper()
	r, m := New(4), &model{room: 4}
	next := byte(0)
	for i, call := range calls {
		agree := true
		switch {
		case call < 5:
			b := make([]byte, call)
			for k := range b {
				next++
				b[k] = next
			}
			agree = r.Add(b) == m.add(b)
		case call < 8:
			agree = bytes.Equal(r.Take(call-4), m.take(call-4))
		default:
			agree = r.Clear() == m.clear()
		}
		if !agree || r.Len() != m.len() || r.Dropped() != m.dropped {
			t.Fatalf("calls %v: the result of call %d is wrong", calls, i)
		}
	}
	same(t, r, m)
}

func TestP1101AllShortSequencesOfCalls(t *testing.T) {
	const kinds = 9
	for length := 1; length <= 6; length++ {
		calls := make([]int, length)
		for {
			replay(t, calls)
			i := 0
			for i < length && calls[i] == kinds-1 {
				calls[i] = 0
				i++
			}
			if i == length {
				break
			}
			calls[i]++
		}
	}
}

func TestP1102TwoRingsByTurns(t *testing.T) {
	random := rand.New(rand.NewSource(1102))
	for _, room := range []int{1, 3, 20, 100} {
		for range 40 {
			// Equal rooms, so that rings that share something are not told apart by them.
			rings := [2]*Ring{New(room), New(room)}
			models := [2]*model{{room: room}, {room: room}}
			for range 400 {
				i := random.Intn(2)
				act(t, random, rings[i], models[i])
				agree(t, rings[1-i], models[1-i])
			}
			same(t, rings[0], models[0])
			same(t, rings[1], models[1])
		}
	}
}

func TestP1102NewReturnsRingsOfTheirOwn(t *testing.T) {
	a, b := New(4), New(4)
	if a == nil || b == nil || a == b {
		t.Fatalf("New: %p, %p", a, b)
	}
	add(t, a, "abc", true)
	wantLen(t, b, 0)
	take(t, b, 3, "")
	wipe(t, b, 0, 0)
	add(t, b, "12", true)
	add(t, b, "34", true)
	take(t, b, 1, "1")
	add(t, a, "xy", false)
	wantDropped(t, a, 1)
	wantDropped(t, b, 0)
	wipe(t, a, 3, 0)
	wantLen(t, b, 3)
	add(t, a, "def", true)
	take(t, a, 1, "d")
	wipe(t, b, 2, 1)
	wantAll(t, a, "ef")
	wantAll(t, b, "2")
	wantAll(t, New(4), "")
	wantDropped(t, New(4), 0)
}

// Octets that go from one ring to the next are memory of the next one only.
func TestP1102FromRingToRing(t *testing.T) {
	a, b := New(10), New(10)
	add(t, a, "abcdef", true)
	taken := a.Take(4)
	if !b.Add(taken) {
		t.Error("Add of what Take returned")
	}
	clear(taken[:cap(taken)])
	add(t, a, "1234", true)
	add(t, b, "5678", true)
	wantAll(t, a, "ef1234")
	wantAll(t, b, "abcd5678")
}

// guarded returns b as a slice with spare capacity, and all the memory that it is a part of.
func guarded(b string) ([]byte, []byte) {
	memory := slices.Concat([]byte("<<<<"), []byte(b), []byte(">>>>>>>>"))
	return memory[4 : 4+len(b)], memory
}

func TestP1102AddNeitherModifiesNorKeepsItsArgument(t *testing.T) {
	for _, held := range []string{"", "ab", "abcdefgh"} {
		for _, room := range []int{8, 9, 12, 15, 30} {
			for _, cleared := range []int{0, 1} {
				r := filled(t, room, held)
				for range cleared {
					// A piece that is begun and the places of those that were cleared behind it.
					r.Take(1)
					r.Clear()
				}
				before := r.Len()
				b, memory := guarded("1234")
				was := slices.Clone(memory)
				fits := r.Add(b)
				r.Add([]byte("567"))
				if !bytes.Equal(memory, was) {
					t.Errorf("room %d, %q: the argument of Add became %q", room, held, memory)
				}
				clear(memory)
				want := held[len(held)-before:]
				if fits {
					want += "1234"
				}
				if len(want)+3 <= room {
					want += "567"
				}
				wantAll(t, r, want)
			}
		}
	}
}

// What is done to a result, its spare capacity included, is not seen in the ring or in other results, and the other way round.
func TestP1102ResultsOfTakeAreNewlyAllocated(t *testing.T) {
	for _, n := range []int{1, 2, 3, 5, 8, 9, 17, 40} {
		r, all := New(100), octets(100)
		for i := 0; i < len(all); i += 4 {
			r.Add(all[i : i+4])
		}
		var results [][]byte
		at := 0
		for at+n <= 90 {
			got := r.Take(n)
			if !bytes.Equal(got, all[at:at+n]) {
				t.Fatalf("Take(%d) after %d: %X, want %X", n, at, got, all[at:at+n])
			}
			results = append(results, got)
			at += n
			for i, c := range got {
				got[i] = ^c
			}
			clear(got[n:cap(got)])
			_ = append(got, 0xAA, 0xBB)
		}
		left := (4 - at%4) % 4
		wipe(t, r, 100-at-left, left)
		more := bytes.Repeat([]byte{'p'}, 100-left)
		if !r.Add(more) {
			t.Fatalf("n %d: no room for %d octets", n, len(more))
		}
		for k, got := range results {
			for i, c := range got {
				if c != ^all[k*n+i] {
					t.Fatalf("n %d: result %d became %X", n, k, got)
				}
			}
		}
		want := slices.Concat(all[at:at+left], more)
		if got := r.Take(100); !bytes.Equal(got, want) {
			t.Fatalf("n %d: the rest is %X, want %X", n, got, want)
		}
	}
}

// A result without octets has no memory of the ring behind it either.
func TestP1102EmptyResultsOfTake(t *testing.T) {
	for _, n := range []int{0, -1, math.MinInt} {
		r := filled(t, 9, "abcd")
		got := r.Take(n)
		_ = append(got, "zzzz"...)
		clear(got[:cap(got)])
		wantAll(t, r, "abcd")
		// An empty ring with memory behind its octets.
		got = r.Take(4)
		add(t, r, "ab", true)
		_ = append(got, "zzzz"...)
		clear(got[:cap(got)])
		wantAll(t, r, "ab")
	}
}

// TestP1102SameCallsSameAnswers is about answers that hang on anything but the calls on the same ring (P102).
func TestP1102SameCallsSameAnswers(t *testing.T) {
	var first []byte
	for round := range 5 {
		random := rand.New(rand.NewSource(3))
		r := New(30)
		var told []byte
		for range 2000 {
			fits := byte(0)
			if r.Add(octets(random.Intn(12))) {
				fits = 1
			}
			told = append(told, fits)
			told = append(told, r.Take(random.Intn(12))...)
			if random.Intn(10) == 0 {
				told = append(told, byte(r.Clear()))
			}
			told = append(told, byte(r.Len()), byte(r.Dropped()))
		}
		if round == 0 {
			first = told
		} else if !bytes.Equal(told, first) {
			t.Fatalf("round %d: other answers than at first", round)
		}
	}
}

func TestP1102ResultsDoNotDependOnCallsAtTheSameTime(t *testing.T) {
	var joined sync.WaitGroup
	for worker := range 4 {
		joined.Go(func() {
			random := rand.New(rand.NewSource(int64(worker)))
			r, m := New(20), &model{room: 20}
			for i := range 1000 {
				b, n := octets(random.Intn(25)), random.Intn(22)
				if got, want := r.Add(b), m.add(b); got != want {
					t.Errorf("worker %d: Add of %d octets = %t, want %t", worker, len(b), got, want)
				}
				if got, want := r.Take(n), m.take(n); !bytes.Equal(got, want) {
					t.Errorf("worker %d: Take(%d) = %X, want %X", worker, n, got, want)
				}
				if i%7 != 0 {
					continue
				}
				if got, want := r.Clear(), m.clear(); got != want {
					t.Errorf("worker %d: Clear() = %d, want %d", worker, got, want)
				}
			}
		})
	}
	joined.Wait()
}
