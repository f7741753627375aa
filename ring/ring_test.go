package ring

import (
	"math"
	"math/rand"
	"slices"
	"testing"

	"bargate/api"
)

// edgeInts are numbers of which none is a row's.
var edgeInts = []int{math.MinInt, math.MinInt + 1, -1 << 32, -256, -9, -8, -7, -1, 8, 9, 15, 16, 64, 256, 1024, 1 << 32, 1<<32 + 1, math.MaxInt - 1, math.MaxInt}

// same: bounds that are all the same one.
func same(bound int) [Classes]int {
	var bounds [Classes]int
	for c := range bounds {
		bounds[c] = bound
	}
	return bounds
}

func wantPush(t *testing.T, p *Port, c, id int, want api.Errno) {
	t.Helper()
	if e := p.Push(c, id); e != want {
		t.Errorf("Push(%d, %d) = %d, want %d", c, id, e, want)
	}
}

func wantPop(t *testing.T, p *Port, c, want int, err api.Errno) {
	t.Helper()
	for range 2 { // Head takes nothing away
		if x, e := p.Head(c); x != want || e != err {
			t.Errorf("Head(%d) = %d, %d, want %d, %d", c, x, e, want, err)
		}
	}
	if x, e := p.Pop(c); x != want || e != err {
		t.Errorf("Pop(%d) = %d, %d, want %d, %d", c, x, e, want, err)
	}
}

func wantRow(t *testing.T, p *Port, c, lost int, want ...int) {
	t.Helper()
	if l := p.List(c); !slices.Equal(l, want) {
		t.Errorf("List(%d) = %v, want %v", c, l, want)
	}
	if p.Len(c) != len(want) || p.Lost(c) != lost {
		t.Errorf("Len and Lost of %d are %d and %d, want %d and %d", c, p.Len(c), p.Lost(c), len(want), lost)
	}
}

func wantAll(t *testing.T, p *Port, all, waits int) {
	t.Helper()
	if p.All() != all || p.Waits() != waits {
		t.Errorf("All and Waits are %d and %d, want %d and %d", p.All(), p.Waits(), all, waits)
	}
}

func wantFlush(t *testing.T, p *Port, want ...int) {
	t.Helper()
	if l := p.Flush(); !slices.Equal(l, want) {
		t.Errorf("Flush = %v, want %v", l, want)
	}
	wantAll(t, p, 0, 0)
}

func TestBounds(t *testing.T) {
	if Classes != 8 || MaxRow != 1024 {
		t.Errorf("Classes and MaxRow are %d and %d", Classes, MaxRow)
	}
}

func TestNew(t *testing.T) {
	p := New(same(3))
	wantAll(t, p, 0, 0)
	for c := range Classes {
		wantRow(t, p, c, 0)
		wantPop(t, p, c, 0, api.ErrMissing)
	}
	wantFlush(t, p)
}

// TestRoom: in each row as many have room as its own bound says.
func TestRoom(t *testing.T) {
	bounds := [Classes]int{math.MinInt, -1, 0, 1, 2, 1024, 1025, math.MaxInt}
	rooms := [Classes]int{0, 0, 0, 1, 2, 1024, 1024, 1024}
	p := New(bounds)
	for c, room := range rooms {
		for i := range room {
			wantPush(t, p, c, i, api.OK)
		}
		wantPush(t, p, c, 7, api.ErrFull)
		wantPush(t, p, c, 8, api.ErrFull)
		if p.Len(c) != room || p.Lost(c) != 2 {
			t.Errorf("Len and Lost of %d are %d and %d, want %d and 2", c, p.Len(c), p.Lost(c), room)
		}
	}
	wantAll(t, p, 3+3*1024, 0b11111000)
	for c, room := range rooms {
		for i := range room {
			wantPop(t, p, c, i, api.OK)
		}
		wantPop(t, p, c, 0, api.ErrMissing)
	}
	wantAll(t, p, 0, 0)
}

func TestBoundsAtTheEdges(t *testing.T) {
	for _, bound := range []int{math.MinInt, math.MinInt + 1, -1 << 32, -1024, -1, 0, 1, 1023, 1024, 1025, 1 << 20, 1<<32 + 1, math.MaxInt} {
		p := New([Classes]int{4: bound})
		taken := 0
		for p.Push(4, taken) == api.OK && taken < 2000 {
			taken++
		}
		if want := min(max(bound, 0), 1024); taken != want || p.Len(4) != want {
			t.Errorf("of the bound %d there is room for %d, want %d", bound, taken, want)
		}
		wantPush(t, p, 3, 1, api.ErrFull)
		wantPush(t, p, 5, 1, api.ErrFull)
	}
}

func TestPush(t *testing.T) {
	p := New(same(2))
	wantPush(t, p, 0, 10, api.OK)
	wantPush(t, p, 0, 11, api.OK)
	wantPush(t, p, 0, 12, api.ErrFull) // of two places a third number has no room
	wantRow(t, p, 0, 1, 10, 11)
	wantPush(t, p, 1, 12, api.OK) // another row has room of its own
	wantRow(t, p, 1, 0, 12)
	wantAll(t, p, 3, 3)
	wantPush(t, p, 0, 13, api.ErrFull)
	wantRow(t, p, 0, 2, 10, 11)
	wantPop(t, p, 0, 10, api.OK)
	wantPush(t, p, 0, 13, api.OK) // where one went there is room again
	wantRow(t, p, 0, 2, 11, 13)
	wantPush(t, p, 0, 14, api.ErrFull)
	wantRow(t, p, 0, 3, 11, 13)
	wantRow(t, p, 1, 0, 12)
}

// TestAllNumbers: every number may wait, the same one too, and 0 is one as any other.
func TestAllNumbers(t *testing.T) {
	ids := append([]int{0, 0, 5, 5, -1, 0}, edgeInts...)
	p := New(same(1024))
	for c := range Classes {
		for _, id := range ids {
			wantPush(t, p, c, id, api.OK)
		}
		wantRow(t, p, c, 0, ids...)
	}
	for c := range Classes {
		for _, id := range ids {
			wantPop(t, p, c, id, api.OK)
		}
		wantPop(t, p, c, 0, api.ErrMissing)
	}
}

func TestPopOfNone(t *testing.T) {
	p := New(same(2))
	for range 3 {
		wantPop(t, p, 6, 0, api.ErrMissing)
	}
	wantPush(t, p, 6, 9, api.OK)
	wantPop(t, p, 5, 0, api.ErrMissing)
	wantPop(t, p, 7, 0, api.ErrMissing)
	wantRow(t, p, 6, 0, 9)
	wantPop(t, p, 6, 9, api.OK)
	wantPop(t, p, 6, 0, api.ErrMissing)
	wantRow(t, p, 6, 0)
	wantPush(t, p, 6, 1, api.OK)
	wantPush(t, p, 6, 2, api.OK)
	wantPush(t, p, 6, 3, api.ErrFull) // what was missing made no room
	wantRow(t, p, 6, 1, 1, 2)
}

// TestNoSuchRow: what is asked of no row, nothing tells afterwards: not even what is counted.
func TestNoSuchRow(t *testing.T) {
	for _, bound := range []int{0, 1, 5} {
		p := New(same(bound))
		for c := range Classes {
			p.Push(c, 100+c)
		}
		all, waits := p.All(), p.Waits()
		lost := p.Lost(0)
		for _, c := range edgeInts {
			wantPush(t, p, c, 1, api.ErrRange)
			wantPop(t, p, c, 0, api.ErrRange)
			wantRow(t, p, c, 0)
		}
		wantAll(t, p, all, waits)
		for c := range Classes {
			if bound == 0 {
				wantRow(t, p, c, lost)
			} else {
				wantRow(t, p, c, 0, 100+c)
			}
		}
	}
}

func TestWaits(t *testing.T) {
	for rows := range 256 {
		p := New(same(2))
		all := 0
		for c := range Classes {
			for range 2 * (rows >> c & 1) {
				wantPush(t, p, c, 0, api.OK)
				all++
			}
		}
		wantAll(t, p, all, rows)
		for c := range Classes {
			p.Pop(c)
		}
		wantAll(t, p, all/2, rows) // one of two is left
	}
}

func TestFlush(t *testing.T) {
	p := New([Classes]int{2, 3, 0, 1, 0, 0, 0, 2})
	wantPush(t, p, 7, 1, api.OK)
	wantPush(t, p, 1, 9, api.OK)
	wantPush(t, p, 1, 2, api.OK)
	wantPush(t, p, 0, 8, api.OK)
	wantPush(t, p, 1, 5, api.OK)
	wantPush(t, p, 7, 0, api.OK)
	wantPush(t, p, 7, 3, api.ErrFull)
	wantPush(t, p, 2, 3, api.ErrFull)
	wantPop(t, p, 1, 9, api.OK)
	wantAll(t, p, 5, 131)
	wantFlush(t, p, 8, 2, 5, 1, 0)
	for c, lost := range []int{0, 0, 1, 0, 0, 0, 0, 1} {
		wantRow(t, p, c, lost)
		wantPop(t, p, c, 0, api.ErrMissing)
	}
	wantFlush(t, p)
	for i := range 3 {
		wantPush(t, p, 1, i, api.OK) // the bounds stay, and all of the room is there again
	}
	wantPush(t, p, 1, 3, api.ErrFull)
	wantPush(t, p, 2, 3, api.ErrFull)
	wantRow(t, p, 1, 1, 0, 1, 2)
	wantRow(t, p, 2, 2)
	wantFlush(t, p, 0, 1, 2)
}

func TestLostVeryOften(t *testing.T) {
	const often = 70000 // more than 16 bits
	p := New([Classes]int{3: 1})
	wantPush(t, p, 3, 4, api.OK)
	for range often {
		wantPush(t, p, 3, 5, api.ErrFull)
	}
	wantRow(t, p, 3, often, 4)
	wantFlush(t, p, 4)
	wantRow(t, p, 3, often)
}

// TestLongQueue: numbers go on coming and going, far beyond what may wait at once.
func TestLongQueue(t *testing.T) {
	p := New([Classes]int{5: 1024})
	for i := range 1024 {
		wantPush(t, p, 5, i, api.OK)
	}
	for i := range 10000 {
		wantPush(t, p, 5, -1, api.ErrFull)
		wantPop(t, p, 5, i, api.OK)
		wantPush(t, p, 5, i+1024, api.OK)
	}
	if l := p.List(5); len(l) != 1024 || l[0] != 10000 || l[1023] != 11023 {
		t.Errorf("what waits is %d long", len(l))
	}
	if p.Lost(5) != 10000 {
		t.Errorf("Lost = %d", p.Lost(5))
	}
}

// overwrite: another writes into an answer, and into the room behind it.
func overwrite(l []int) {
	l = l[:cap(l)]
	for i := range l {
		l[i] = -99
	}
}

// TestWhatIsAnswered: lists are of their own, and so is the room behind them.
func TestWhatIsAnswered(t *testing.T) {
	p := New(same(9))
	for i := range 5 {
		wantPush(t, p, 2, i, api.OK)
		wantPush(t, p, 4, 10+i, api.OK)
	}
	first, second := p.List(2), p.List(2)
	overwrite(first)
	if !slices.Equal(second, []int{0, 1, 2, 3, 4}) {
		t.Errorf("another list is %v", second)
	}
	wantRow(t, p, 2, 0, 0, 1, 2, 3, 4)
	wantPop(t, p, 2, 0, api.OK)
	wantPush(t, p, 2, 5, api.OK)
	if !slices.Equal(second, []int{0, 1, 2, 3, 4}) {
		t.Errorf("a list is %v, now that others wait", second)
	}
	overwrite(second)
	wantRow(t, p, 2, 0, 1, 2, 3, 4, 5)
	third := p.List(4)
	gone := p.Flush()
	for i := range 9 {
		wantPush(t, p, 2, 20+i, api.OK)
	}
	if !slices.Equal(gone, []int{1, 2, 3, 4, 5, 10, 11, 12, 13, 14}) || !slices.Equal(third, []int{10, 11, 12, 13, 14}) {
		t.Errorf("what was flushed is %v, and what was listed %v, now that others wait", gone, third)
	}
	overwrite(gone)
	wantRow(t, p, 2, 0, 20, 21, 22, 23, 24, 25, 26, 27, 28)
	if !slices.Equal(third, []int{10, 11, 12, 13, 14}) {
		t.Errorf("a list is %v, once what was flushed was written over", third)
	}
}

// TestOnlyRow: where one row alone is flushed, its memory isn't handed out.
func TestOnlyRow(t *testing.T) {
	p := New(same(8))
	for i := range 3 {
		wantPush(t, p, 0, i, api.OK)
	}
	gone := p.Flush()
	for i := range 8 {
		wantPush(t, p, 0, 50+i, api.OK)
	}
	if !slices.Equal(gone, []int{0, 1, 2}) {
		t.Errorf("what was flushed is %v", gone)
	}
	overwrite(gone)
	wantRow(t, p, 0, 0, 50, 51, 52, 53, 54, 55, 56, 57)
}

// TestEmptyLists: the room behind a list of none isn't a row's either.
func TestEmptyLists(t *testing.T) {
	p := New(same(8))
	for i := range 4 {
		wantPush(t, p, 0, i, api.OK)
	}
	for i := range 4 {
		wantPop(t, p, 0, i, api.OK)
	}
	list, gone := p.List(0), p.Flush()
	for i := range 4 {
		wantPush(t, p, 0, 60+i, api.OK)
	}
	overwrite(list)
	overwrite(gone)
	wantRow(t, p, 0, 0, 60, 61, 62, 63)
}

func TestPortsOfTheirOwn(t *testing.T) {
	bounds := same(1)
	p := New(bounds)
	bounds[0] = 2
	q := New(bounds)
	wantPush(t, p, 0, 1, api.OK)
	wantPush(t, p, 0, 2, api.ErrFull)
	wantAll(t, q, 0, 0)
	wantRow(t, q, 0, 0)
	wantPush(t, q, 0, 3, api.OK)
	wantPush(t, q, 0, 4, api.OK)
	wantFlush(t, p, 1)
	wantRow(t, q, 0, 0, 3, 4)
	wantRow(t, p, 0, 1)
}

// model is the rows told otherwise: all that waits in one list, each with its row, as it came.
type model struct {
	bounds [Classes]int
	lost   [Classes]int
	came   [][2]int
}

func (m *model) list(c int) []int {
	var l []int
	for _, x := range m.came {
		if x[0] == c {
			l = append(l, x[1])
		}
	}
	return l
}

func (m *model) push(c, id int) api.Errno {
	switch {
	case c < 0 || c > 7:
		return api.ErrRange
	case len(m.list(c)) == m.bounds[c]:
		m.lost[c]++
		return api.ErrFull
	}
	m.came = append(m.came, [2]int{c, id})
	return api.OK
}

func (m *model) pop(c int) (int, api.Errno) {
	if c < 0 || c > 7 {
		return 0, api.ErrRange
	}
	at := slices.IndexFunc(m.came, func(x [2]int) bool { return x[0] == c })
	if at < 0 {
		return 0, api.ErrMissing
	}
	id := m.came[at][1]
	m.came = slices.Delete(m.came, at, at+1)
	return id, api.OK
}

func (m *model) flush() []int {
	var l []int
	for c := range Classes {
		l = append(l, m.list(c)...)
	}
	m.came = nil
	return l
}

func (m *model) check(t *testing.T, p *Port) {
	t.Helper()
	waits := 0
	for c := range Classes {
		l := m.list(c)
		wantRow(t, p, c, m.lost[c], l...)
		if len(l) > 0 {
			waits += int(math.Pow(2, float64(c)))
		}
	}
	wantAll(t, p, len(m.came), waits)
}

func TestManySteps(t *testing.T) {
	r := rand.New(rand.NewSource(7))
	for range 20 {
		m := &model{}
		for c := range m.bounds {
			m.bounds[c] = r.Intn(5)
		}
		p := New(m.bounds)
		for range 1000 {
			c := r.Intn(Classes+2) - 1
			switch n := r.Intn(50); {
			case n == 0:
				wantFlush(t, p, m.flush()...)
			case n < 20:
				want, err := m.pop(c)
				wantPop(t, p, c, want, err)
			default:
				id := r.Intn(100) - 50
				wantPush(t, p, c, id, m.push(c, id))
			}
			m.check(t, p)
		}
	}
}
