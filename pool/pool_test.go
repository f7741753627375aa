package pool

import (
	"bytes"
	"math"
	"math/rand"
	"testing"

	"bargate/api"
)

var edgeInts = []int{math.MinInt, math.MinInt + 1, -1 << 32, -4097, -4096, -2, -1, 4096, 4097, 1 << 20, 1 << 32, math.MaxInt - 1, math.MaxInt}

func wantTaken(t *testing.T, p *Pool, b string, want int) {
	t.Helper()
	if id, e := p.Take([]byte(b)); id != want || e != api.OK {
		t.Errorf("Take of %q = %d, %d, want %d", b, id, e, want)
	}
}

func wantCounts(t *testing.T, p *Pool, room, used, holds int) {
	t.Helper()
	if p.Room() != room || p.Used() != used || p.Holds() != holds {
		t.Errorf("Room, Used and Holds are %d, %d and %d, want %d, %d and %d", p.Room(), p.Used(), p.Holds(), room, used, holds)
	}
}

func wantFrame(t *testing.T, p *Pool, id int, want string) {
	t.Helper()
	if b, e := p.Get(id); string(b) != want || e != api.OK {
		t.Errorf("Get(%d) = %q, %d, want %q", id, b, e, want)
	}
	if p.Size(id) != len(want) {
		t.Errorf("Size(%d) = %d, want %d", id, p.Size(id), len(want))
	}
}

// wantMissing: a place is free, or there is none; and that calls which are refused change nothing.
func wantMissing(t *testing.T, p *Pool, id int) {
	t.Helper()
	used, holds := p.Used(), p.Holds()
	if b, e := p.Get(id); len(b) != 0 || e != api.ErrMissing {
		t.Errorf("Get(%d) = %q, %d, want ErrMissing and none", id, b, e)
	}
	if p.Size(id) != 0 {
		t.Errorf("Size(%d) = %d, want 0", id, p.Size(id))
	}
	if e := p.Drop(id); e != api.ErrMissing {
		t.Errorf("Drop(%d) = %d, want ErrMissing", id, e)
	}
	if e := p.Hold(id); e != api.ErrMissing {
		t.Errorf("Hold(%d) = %d, want ErrMissing", id, e)
	}
	if p.Used() != used || p.Holds() != holds {
		t.Errorf("what was refused of the place %d made Used and Holds %d and %d, they were %d and %d", id, p.Used(), p.Holds(), used, holds)
	}
}

func wantFull(t *testing.T, p *Pool) {
	t.Helper()
	used, holds := p.Used(), p.Holds()
	for _, b := range [][]byte{nil, {}, {1, 2, 3}} {
		if id, e := p.Take(b); id != 0 || e != api.ErrFull {
			t.Errorf("Take of %v = %d, %d, want ErrFull and 0", b, id, e)
		}
	}
	if p.Used() != used || p.Holds() != holds {
		t.Errorf("a frame without room made Used and Holds %d and %d, they were %d and %d", p.Used(), p.Holds(), used, holds)
	}
}

func wantOK(t *testing.T, what string, e api.Errno) {
	t.Helper()
	if e != api.OK {
		t.Errorf("%s = %d", what, e)
	}
}

func TestNew(t *testing.T) {
	if MaxPlaces != 4096 {
		t.Errorf("MaxPlaces = %d", MaxPlaces)
	}
	for _, x := range [][2]int{
		{math.MinInt, 0}, {-4096, 0}, {-1, 0}, {0, 0}, {1, 1}, {2, 2}, {100, 100},
		{4095, 4095}, {4096, 4096}, {4097, 4096}, {1 << 20, 4096}, {1<<32 + 1, 4096}, {math.MaxInt, 4096},
	} {
		p := New(x[0])
		wantCounts(t, p, x[1], 0, 0)
		wantMissing(t, p, 0)
		wantMissing(t, p, x[1]-1)
		wantMissing(t, p, x[1])
	}
}

func TestNoPlaces(t *testing.T) {
	for _, n := range []int{0, -1, math.MinInt} {
		p := New(n)
		wantFull(t, p)
		wantMissing(t, p, 0)
		wantCounts(t, p, 0, 0, 0)
	}
}

func TestTake(t *testing.T) {
	p := New(3)
	wantTaken(t, p, "a", 0)
	wantCounts(t, p, 3, 1, 1)
	wantMissing(t, p, 1)
	wantTaken(t, p, "bc", 1)
	wantTaken(t, p, "a", 2) // the same bytes are another frame
	wantCounts(t, p, 3, 3, 3)
	wantFull(t, p)
	wantFrame(t, p, 0, "a")
	wantFrame(t, p, 1, "bc")
	wantFrame(t, p, 2, "a")
}

func TestTakeTheLowest(t *testing.T) {
	p := New(5)
	for id := range 5 {
		wantTaken(t, p, "old", id)
	}
	for _, id := range []int{3, 1, 4} {
		wantOK(t, "Drop", p.Drop(id))
	}
	wantCounts(t, p, 5, 2, 2)
	wantTaken(t, p, "x", 1)
	wantOK(t, "Drop", p.Drop(0))
	wantTaken(t, p, "y", 0)
	wantTaken(t, p, "z", 3)
	wantMissing(t, p, 4)
	wantTaken(t, p, "", 4)
	wantFull(t, p)
	for id, want := range []string{"y", "x", "old", "z", ""} {
		wantFrame(t, p, id, want)
	}
}

// TestEmptyFrames: a frame without bytes takes a place as any other.
func TestEmptyFrames(t *testing.T) {
	p := New(2)
	for want, b := range [][]byte{nil, {}} {
		if id, e := p.Take(b); id != want || e != api.OK {
			t.Errorf("Take of no bytes = %d, %d, want %d", id, e, want)
		}
	}
	wantCounts(t, p, 2, 2, 2)
	wantFull(t, p)
	wantFrame(t, p, 0, "")
	wantFrame(t, p, 1, "")
	wantOK(t, "Hold", p.Hold(0))
	wantOK(t, "Drop", p.Drop(0))
	wantFrame(t, p, 0, "")
	wantOK(t, "Drop", p.Drop(0))
	wantMissing(t, p, 0)
	wantCounts(t, p, 2, 1, 1)
}

func TestManyPlaces(t *testing.T) {
	p := New(MaxPlaces)
	for id := range MaxPlaces {
		wantTaken(t, p, string([]byte{byte(id >> 8), byte(id)}), id)
	}
	wantFull(t, p)
	wantCounts(t, p, 4096, 4096, 4096)
	for id := range MaxPlaces {
		wantFrame(t, p, id, string([]byte{byte(id >> 8), byte(id)}))
	}
	wantOK(t, "Drop", p.Drop(4095))
	wantTaken(t, p, "the last", 4095)
	wantFrame(t, p, 4095, "the last")
	wantMissing(t, p, 4096)
}

func TestFramesOfAllSizes(t *testing.T) {
	p := New(1)
	for _, size := range []int{1, 63, 64, 1522, 1523, 1 << 20} {
		wantTaken(t, p, string(bytes.Repeat([]byte{7}, size)), 0)
		wantFrame(t, p, 0, string(bytes.Repeat([]byte{7}, size)))
		wantOK(t, "Drop", p.Drop(0))
		wantMissing(t, p, 0)
	}
}

func TestHoldAndDrop(t *testing.T) {
	p := New(2)
	wantTaken(t, p, "three ports", 0)
	wantTaken(t, p, "one", 1)
	wantOK(t, "Hold", p.Hold(0))
	wantOK(t, "Hold", p.Hold(0))
	wantCounts(t, p, 2, 2, 4)
	for left := 3; left > 0; left-- {
		wantFrame(t, p, 0, "three ports")
		wantCounts(t, p, 2, 2, left+1)
		wantFull(t, p)
		wantOK(t, "Drop", p.Drop(0))
	}
	wantCounts(t, p, 2, 1, 1)
	wantMissing(t, p, 0)
	wantFrame(t, p, 1, "one")
	wantTaken(t, p, "new", 0)
	wantCounts(t, p, 2, 2, 2)
	wantFrame(t, p, 0, "new")
	wantOK(t, "Drop", p.Drop(0)) // a new frame is held once, whatever the one before was
	wantMissing(t, p, 0)
}

func TestHoldVeryOften(t *testing.T) {
	const often = 70000 // more than 16 bits
	p := New(1)
	wantTaken(t, p, "x", 0)
	for range often {
		wantOK(t, "Hold", p.Hold(0))
	}
	wantCounts(t, p, 1, 1, often+1)
	for range often {
		wantOK(t, "Drop", p.Drop(0))
	}
	wantFrame(t, p, 0, "x")
	wantOK(t, "Drop", p.Drop(0))
	wantCounts(t, p, 1, 0, 0)
}

func TestNoSuchPlace(t *testing.T) {
	for _, n := range []int{-1, 0, 1, 3, 4096} {
		p := New(n)
		for filled := range 3 {
			for _, id := range append(edgeInts, p.Room()) {
				wantMissing(t, p, id)
			}
			if filled < p.Room() {
				wantTaken(t, p, "x", filled)
			}
		}
	}
}

// TestWhatIsHandedIn: the bytes of a frame, and the room behind them, are neither changed nor kept.
func TestWhatIsHandedIn(t *testing.T) {
	p := New(2)
	room := []byte("abcdef")
	if id, e := p.Take(room[:3]); id != 0 || e != api.OK {
		t.Errorf("Take = %d, %d", id, e)
	}
	if id, e := p.Take(room[:0]); id != 1 || e != api.OK {
		t.Errorf("Take = %d, %d", id, e)
	}
	got, _ := p.Get(0)
	_ = append(got, "xyz"...)
	none, _ := p.Get(1)
	_ = append(none, "xyz"...)
	if string(room) != "abcdef" {
		t.Errorf("what was handed in is %q", room)
	}
	clear(room)
	wantFrame(t, p, 0, "abc")
	wantFrame(t, p, 1, "")
}

// TestWhatIsAnswered: each answer is of its own, and so is the room behind it.
func TestWhatIsAnswered(t *testing.T) {
	p := New(2)
	wantTaken(t, p, "abc", 0)
	first, _ := p.Get(0)
	second, _ := p.Get(0)
	first[0] = 'x'
	if string(second) != "abc" {
		t.Errorf("another answer is %q", second)
	}
	wantFrame(t, p, 0, "abc")
	whole := second[:cap(second)]
	for i := range whole {
		whole[i] = 'y'
	}
	wantFrame(t, p, 0, "abc")
	third, _ := p.Get(0)
	wantOK(t, "Drop", p.Drop(0))
	wantTaken(t, p, "new", 0)
	if string(third) != "abc" {
		t.Errorf("an answer is %q, now that its place has another frame", third)
	}
}

func TestPoolsOfTheirOwn(t *testing.T) {
	p, q := New(2), New(2)
	wantTaken(t, p, "p", 0)
	wantCounts(t, q, 2, 0, 0)
	wantMissing(t, q, 0)
	wantTaken(t, q, "q", 0)
	wantOK(t, "Drop", p.Drop(0))
	wantFrame(t, q, 0, "q")
}

// model is a pool told otherwise: what is held, by its number.
type model struct {
	room   int
	frames map[int]string
	holds  map[int]int
}

func (m *model) take(b string) (int, api.Errno) {
	for id := range m.room {
		if m.holds[id] == 0 {
			m.frames[id], m.holds[id] = b, 1
			return id, api.OK
		}
	}
	return 0, api.ErrFull
}

func (m *model) hold(id, more int) api.Errno {
	if m.holds[id] == 0 {
		return api.ErrMissing
	}
	m.holds[id] += more
	if m.holds[id] == 0 {
		delete(m.holds, id)
	}
	return api.OK
}

func (m *model) check(t *testing.T, p *Pool) {
	t.Helper()
	all := 0
	for _, n := range m.holds {
		all += n
	}
	wantCounts(t, p, m.room, len(m.holds), all)
	for id := -1; id <= m.room; id++ {
		if m.holds[id] > 0 {
			wantFrame(t, p, id, m.frames[id])
		} else {
			wantMissing(t, p, id)
		}
	}
}

func TestManySteps(t *testing.T) {
	r := rand.New(rand.NewSource(6))
	for n := range 8 {
		p, m := New(n), &model{n, map[int]string{}, map[int]int{}}
		for range 2000 {
			id := r.Intn(n+2) - 1
			switch r.Intn(4) {
			case 0:
				b := make([]byte, r.Intn(5))
				r.Read(b)
				got, e := p.Take(b)
				if want, err := m.take(string(b)); got != want || e != err {
					t.Errorf("Take = %d, %d, want %d, %d", got, e, want, err)
				}
			case 1:
				if e, want := p.Hold(id), m.hold(id, 1); e != want {
					t.Errorf("Hold(%d) = %d, want %d", id, e, want)
				}
			default:
				if e, want := p.Drop(id), m.hold(id, -1); e != want {
					t.Errorf("Drop(%d) = %d, want %d", id, e, want)
				}
			}
			m.check(t, p)
		}
	}
}
