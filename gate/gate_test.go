package gate

import (
	"math"
	"math/rand"
	"slices"
	"testing"

	"bargate/api"
)

const latest = int64(1)<<62 - 1

var edgeNumbers = []int64{math.MinInt64, math.MinInt64 + 1, -1 << 62, -1 << 32, -100, -2, -1, 0, 1, 2, 9, 10, 100, 255, 256, 999999999, 1000000000, 1000000001, 1 << 32, 1<<32 + 1, latest - 1, latest, latest + 1, math.MaxInt64 - 1, math.MaxInt64}

var edgeClasses = []int{math.MinInt, -1 << 32, -64, -8, -1, 0, 1, 6, 7, 8, 9, 31, 32, 63, 64, 65, 1 << 32, math.MaxInt}

// entries: pieces of a list, an Open and its Nanos each.
func entries(pairs ...[2]int64) []api.Entry {
	var out []api.Entry
	for _, p := range pairs {
		out = append(out, api.Entry{Open: int(p[0]), Nanos: p[1]})
	}
	return out
}

func wantCheck(t *testing.T, l api.List, want api.Errno) {
	t.Helper()
	if e := Check(l); e != want {
		t.Errorf("Check(%+v) = %d, want %d", l, e, want)
	}
}

func wantState(t *testing.T, l api.List, at int64, want int) {
	t.Helper()
	if got := State(l, at); got != want {
		t.Errorf("State(%+v, %d) = %d, want %d", l, at, got, want)
	}
}

func wantNext(t *testing.T, l api.List, at, want int64) {
	t.Helper()
	if got := Next(l, at); got != want {
		t.Errorf("Next(%+v, %d) = %d, want %d", l, at, got, want)
	}
}

func wantUntil(t *testing.T, l api.List, class int, at, want int64) {
	t.Helper()
	if got := Until(l, class, at); got != want {
		t.Errorf("Until(%+v, %d, %d) = %d, want %d", l, class, at, got, want)
	}
}

func wantFrom(t *testing.T, l api.List, class int, at, want int64) {
	t.Helper()
	if got := From(l, class, at); got != want {
		t.Errorf("From(%+v, %d, %d) = %d, want %d", l, class, at, got, want)
	}
}

func wantStart(t *testing.T, l api.List, at, want int64) {
	t.Helper()
	if got := Start(l, at); got != want {
		t.Errorf("Start(%+v, %d) = %d, want %d", l, at, got, want)
	}
}

func TestNumbers(t *testing.T) {
	if MaxEntries != 64 || MaxCycle != 1000000000 || All != 255 {
		t.Error("the constants are others")
	}
}

// TestCheck: P16.1: each number to both its edges, in the first entry, one between, and the last one.
func TestCheck(t *testing.T) {
	good := func() api.List {
		return api.List{Base: 10, Cycle: 100, Extension: 5, Entries: entries([2]int64{1, 30}, [2]int64{2, 30}, [2]int64{4, 30})}
	}
	wantCheck(t, good(), api.OK)
	for _, n := range edgeNumbers {
		want := func(least, most int64) api.Errno {
			if n < least || n > most {
				return api.ErrConfig
			}
			return api.OK
		}
		l := good()
		l.Base = n
		wantCheck(t, l, want(0, 4611686018427387903))
		l = good()
		l.Cycle = n
		wantCheck(t, l, want(1, 1000000000))
		l = good()
		l.Extension = n
		wantCheck(t, l, want(0, 1000000000))
		for i := range 3 {
			l = good()
			l.Entries[i].Open = int(n)
			wantCheck(t, l, want(0, 255))
			l = good()
			l.Entries[i].Nanos = n
			wantCheck(t, l, want(1, 1000000000))
		}
	}
}

// TestCheckEntries: P16.1: from one to MaxEntries of them, whether they have room in the cycle or not.
func TestCheckEntries(t *testing.T) {
	wantCheck(t, api.List{Cycle: 100}, api.ErrConfig)
	wantCheck(t, api.List{Cycle: 100, Entries: []api.Entry{}}, api.ErrConfig)
	wantCheck(t, api.List{Cycle: 1, Entries: entries([2]int64{0, 1})}, api.OK)
	for n := range 130 {
		l := api.List{Cycle: 1}
		for range n {
			l.Entries = append(l.Entries, api.Entry{Open: All, Nanos: MaxCycle})
		}
		want := api.OK
		if n < 1 || n > 64 {
			want = api.ErrConfig
		}
		wantCheck(t, l, want)
	}
	wantCheck(t, api.List{}, api.ErrConfig)
}

// TestClone: P16.1, P2: the same, of its own; one that may not be, too.
func TestClone(t *testing.T) {
	room := entries([2]int64{1, 30}, [2]int64{2, 40}, [2]int64{4, 50}, [2]int64{8, 60})
	for _, l := range []api.List{
		{}, {Base: -1, Cycle: math.MinInt64, Extension: math.MaxInt64}, {Base: 1, Cycle: 2, Extension: 3, Entries: room[:2]},
		{Cycle: 100, Entries: room}, {Cycle: 100, Entries: room[:0]}, {Entries: make([]api.Entry, 1000)},
	} {
		before := slices.Clone(l.Entries)
		c := Clone(l)
		if c.Base != l.Base || c.Cycle != l.Cycle || c.Extension != l.Extension || !slices.Equal(c.Entries, l.Entries) {
			t.Errorf("Clone(%+v) = %+v", l, c)
		}
		for i := range c.Entries[:cap(c.Entries)] {
			c.Entries[:cap(c.Entries)][i] = api.Entry{Open: 99, Nanos: 99}
		}
		if !slices.Equal(l.Entries, before) {
			t.Errorf("%v was %v ahead of its clone's change", l.Entries, before)
		}
	}
	if room[2] != (api.Entry{Open: 4, Nanos: 50}) {
		t.Errorf("spare room was changed: %v", room)
	}
	d := Clone(api.List{Entries: room})
	room[0].Open = 77
	if d.Entries[0].Open != 1 {
		t.Error("a clone changed with the list")
	}
}

// TestExample: the document's own: the last entry goes on up to the cycle's end.
func TestExample(t *testing.T) {
	l := api.List{Cycle: 100, Entries: entries([2]int64{1, 30}, [2]int64{2, 30})}
	for at := range int64(300) {
		want := 2
		if at%100 < 30 {
			want = 1
		}
		wantState(t, l, at, want)
	}
	wantNext(t, l, 0, 30)
	wantNext(t, l, 29, 30)
	wantNext(t, l, 30, 100)
	wantNext(t, l, 60, 100)
	wantNext(t, l, 99, 100)
	wantNext(t, l, 100, 130)
	wantUntil(t, l, 1, 30, 100)
	wantFrom(t, l, 1, 100, 130)
}

// TestState: P16.2: ahead of Base all may go; what is beyond the cycle's end isn't in force, be it a whole entry or a part.
func TestState(t *testing.T) {
	l := api.List{Base: 1000, Cycle: 10, Entries: entries([2]int64{1, 4}, [2]int64{2, 3}, [2]int64{4, 5}, [2]int64{8, 100})}
	wantState(t, l, 0, 255)
	wantState(t, l, 999, 255)
	wantState(t, l, 1000, 1)
	wantState(t, l, 1003, 1)
	wantState(t, l, 1004, 2)
	wantState(t, l, 1006, 2)
	wantState(t, l, 1007, 4)
	wantState(t, l, 1009, 4)
	wantState(t, l, 1010, 1)
	wantState(t, l, 1239, 4)
	l.Cycle = 7 // the third one would begin just at its end
	wantState(t, l, 1006, 2)
	wantState(t, l, 1007, 1)
	wantNext(t, l, 1004, 1007)
	wantNext(t, l, 1007, 1011)
	l.Cycle = 4
	wantState(t, l, 1003, 1)
	wantState(t, l, 1004, 1)
	wantNext(t, l, 1000, 1004)
	wantNext(t, l, 1003, 1004)
}

// TestNext: P16.2: an entry's beginning tells, though it is open as the one ahead; so does a cycle's.
func TestNext(t *testing.T) {
	l := api.List{Base: 50, Cycle: 20, Entries: entries([2]int64{3, 5}, [2]int64{3, 5}, [2]int64{3, 5})}
	wantNext(t, l, 0, 50)
	wantNext(t, l, 49, 50)
	wantNext(t, l, 50, 55)
	wantNext(t, l, 54, 55)
	wantNext(t, l, 55, 60)
	wantNext(t, l, 60, 70)
	wantNext(t, l, 65, 70)
	wantNext(t, l, 70, 75)
	one := api.List{Cycle: 1, Entries: entries([2]int64{0, 1})}
	wantNext(t, one, 0, 1)
	wantNext(t, one, 7, 8)
}

// TestUntil: P16.3: a class goes on over entries and over a cycle's end; ahead of Base it goes.
func TestUntil(t *testing.T) {
	l := api.List{Base: 100, Cycle: 50, Entries: entries([2]int64{129, 10}, [2]int64{1, 10}, [2]int64{2, 10}, [2]int64{131, 10})}
	wantUntil(t, l, 0, 100, 120)
	wantUntil(t, l, 0, 119, 120)
	wantUntil(t, l, 0, 120, 120)
	wantUntil(t, l, 0, 129, 129)
	wantUntil(t, l, 0, 130, 170) // over the last entry's rest and the cycle's end
	wantUntil(t, l, 1, 120, 150)
	wantUntil(t, l, 1, 110, 110)
	wantUntil(t, l, 7, 130, 160)
	wantUntil(t, l, 0, 0, 120)
	wantUntil(t, l, 1, 0, 100)
	wantUntil(t, l, 1, 99, 100)
	wantUntil(t, l, 2, 99, 100)
	wantUntil(t, l, 2, 100, 100)
}

// TestUntilForGood: P16.3: -1, where a class is in all entries that are ever in force.
func TestUntilForGood(t *testing.T) {
	l := api.List{Base: 100, Cycle: 50, Entries: entries([2]int64{129, 10}, [2]int64{1, 10}, [2]int64{255, 30}, [2]int64{254, 5})}
	for _, at := range []int64{0, 99, 100, 111, 149, 150, 1 << 40, latest} {
		wantUntil(t, l, 0, at, -1) // the last one is beyond the cycle's end
	}
	l.Cycle = 51
	wantUntil(t, l, 0, 0, 150)
	wantUntil(t, l, 0, 150, 150)
	wantUntil(t, l, 0, 151, 201)
}

// TestFrom: P16.3: at once, where a class is in the State; else from the next entry that has it, in this cycle or the next.
func TestFrom(t *testing.T) {
	l := api.List{Base: 100, Cycle: 50, Entries: entries([2]int64{4, 10}, [2]int64{1, 10}, [2]int64{1, 10}, [2]int64{130, 10})}
	wantFrom(t, l, 0, 100, 110)
	wantFrom(t, l, 0, 110, 110)
	wantFrom(t, l, 0, 125, 125)
	wantFrom(t, l, 0, 130, 160)
	wantFrom(t, l, 0, 149, 160)
	wantFrom(t, l, 2, 109, 109)
	wantFrom(t, l, 2, 110, 150)
	wantFrom(t, l, 7, 100, 130)
	wantFrom(t, l, 7, 149, 149)
	wantFrom(t, l, 7, 150, 180)
	for class := range 8 {
		wantFrom(t, l, class, 0, 0)
		wantFrom(t, l, class, 99, 99)
	}
	wantFrom(t, l, 3, 99, 99)
	wantFrom(t, l, 3, 100, -1)
	wantFrom(t, l, 3, latest, -1)
}

// TestFromNever: P16.3: -1, where the one entry that has a class is never in force.
func TestFromNever(t *testing.T) {
	l := api.List{Cycle: 50, Entries: entries([2]int64{1, 20}, [2]int64{2, 30}, [2]int64{4, 10})}
	for _, at := range []int64{0, 20, 49, 50, latest} {
		wantFrom(t, l, 2, at, -1)
	}
	l.Cycle = 51
	wantFrom(t, l, 2, 0, 50)
	wantFrom(t, l, 2, 51, 101)
}

// TestStart: P16.3: a beginning is its own; ahead of Base there is none.
func TestStart(t *testing.T) {
	l := api.List{Base: 10, Cycle: 100, Entries: entries([2]int64{1, 1})}
	wantStart(t, l, 0, 10)
	wantStart(t, l, 9, 10)
	wantStart(t, l, 10, 10)
	wantStart(t, l, 11, 110)
	wantStart(t, l, 50, 110)
	wantStart(t, l, 109, 110)
	wantStart(t, l, 110, 110)
	wantStart(t, l, 111, 210)
	l.Base = latest
	wantStart(t, l, 0, latest)
	wantStart(t, l, latest, latest)
}

// TestLatest: P16.2, P16.3: at the latest times what is told may be beyond them.
func TestLatest(t *testing.T) {
	l := api.List{Base: latest, Cycle: MaxCycle, Entries: entries([2]int64{1, MaxCycle - 1}, [2]int64{2, MaxCycle})}
	wantState(t, l, latest-1, 255)
	wantState(t, l, latest, 1)
	wantNext(t, l, latest-1, latest)
	wantNext(t, l, latest, latest+MaxCycle-1)
	wantUntil(t, l, 0, latest, latest+MaxCycle-1)
	wantFrom(t, l, 1, latest, latest+MaxCycle-1)
	wantFrom(t, l, 2, latest, -1)
	l.Base = latest - 1
	wantStart(t, l, latest, latest-1+MaxCycle)
	l.Base = latest - MaxCycle
	wantStart(t, l, latest, latest)
	l.Base = latest - MaxCycle + 1
	wantState(t, l, latest, 2)
	wantNext(t, l, latest, latest+1)
	wantFrom(t, l, 0, latest, latest+1)
	wantUntil(t, l, 0, latest, latest)
	wantUntil(t, l, 1, latest, latest+1)
	wantStart(t, l, latest, latest+1)
	l.Base = 0
	at := latest - latest%MaxCycle
	wantState(t, l, at, 1)
	wantNext(t, l, at, at+MaxCycle-1)
	wantStart(t, l, at+1, at+MaxCycle)
}

// TestLongest: P16.2: as many entries as may be, each as long as may be: the first one alone is ever in force.
func TestLongest(t *testing.T) {
	l := api.List{Cycle: MaxCycle}
	for i := range MaxEntries {
		l.Entries = append(l.Entries, api.Entry{Open: i, Nanos: MaxCycle})
	}
	l.Entries[0].Open = 64
	wantCheck(t, l, api.OK)
	wantState(t, l, 0, 64)
	wantState(t, l, MaxCycle-1, 64)
	wantNext(t, l, 0, MaxCycle)
	wantUntil(t, l, 6, 5, -1)
	wantFrom(t, l, 0, 5, -1)
	for i := range l.Entries {
		l.Entries[i].Nanos = 1
	}
	wantState(t, l, 63, 63)
	wantState(t, l, MaxCycle-1, 63)
	wantFrom(t, l, 6, 1, MaxCycle)
	wantNext(t, l, 63, MaxCycle)
	wantNext(t, l, 62, 63)
}

// model is a list told otherwise: whose each nanosecond of its cycle is.
type model struct {
	list  api.List
	owner []int
}

func newModel(l api.List) model {
	m := model{list: l}
	for i, e := range l.Entries {
		for range e.Nanos {
			m.owner = append(m.owner, i)
		}
	}
	for int64(len(m.owner)) < l.Cycle {
		m.owner = append(m.owner, len(l.Entries)-1)
	}
	m.owner = m.owner[:l.Cycle]
	return m
}

func (m model) state(t int64) int {
	if t < m.list.Base {
		return 255
	}
	return m.list.Entries[m.owner[(t-m.list.Base)%m.list.Cycle]].Open
}

// begins: does a cycle begin, or an entry's force?
func (m model) begins(t int64) (cycle, entry bool) {
	if t < m.list.Base {
		return false, false
	}
	at := (t - m.list.Base) % m.list.Cycle
	return at == 0, at == 0 || m.owner[at] != m.owner[at-1]
}

// seek: the first time, from t on, that is so; -1: none, till two cycles went by.
func (m model) seek(t int64, is func(int64) bool) int64 {
	for at := t; at <= max(t, m.list.Base)+2*m.list.Cycle; at++ {
		if is(at) {
			return at
		}
	}
	return -1
}

func (m model) compare(t *testing.T, at int64) {
	t.Helper()
	wantState(t, m.list, at, m.state(at))
	wantNext(t, m.list, at, m.seek(at+1, func(x int64) bool { _, entry := m.begins(x); return entry }))
	wantStart(t, m.list, at, m.seek(at, func(x int64) bool { cycle, _ := m.begins(x); return cycle }))
	for class := range 8 {
		in := func(x int64) bool { return m.state(x)&(1<<class) != 0 }
		wantFrom(t, m.list, class, at, m.seek(at, in))
		wantUntil(t, m.list, class, at, m.seek(at, func(x int64) bool { return !in(x) }))
	}
}

// TestManyLists: a list and its model say the same, nanosecond by nanosecond.
func TestManyLists(t *testing.T) {
	r := rand.New(rand.NewSource(16))
	var never, cut, long int
	for range 1500 {
		l := api.List{Base: r.Int63n(12), Cycle: 1 + r.Int63n(24), Extension: r.Int63n(9)}
		sum := int64(0)
		for range 1 + r.Intn(6) {
			e := api.Entry{Open: r.Intn(256), Nanos: 1 + r.Int63n(9)}
			if r.Intn(3) == 0 {
				e.Open = []int{0, 255, 254, 127}[r.Intn(4)]
			}
			if sum >= l.Cycle {
				never++
			}
			l.Entries, sum = append(l.Entries, e), sum+e.Nanos
		}
		if sum > l.Cycle {
			cut++
		}
		if sum < l.Cycle {
			long++
		}
		wantCheck(t, l, api.OK)
		m := newModel(l)
		for at := range l.Base + 2*l.Cycle + 3 {
			m.compare(t, at)
		}
		far := r.Int63n(latest)
		for at := far; at < far+l.Cycle; at++ {
			m.compare(t, at)
		}
	}
	if min(never, cut, long) < 300 {
		t.Errorf("lists with entries that are never in force: %d, cut: %d, longer at the end: %d: too few", never, cut, long)
	}
}

// TestNothingChanges: P2: a list that is handed in stays, its spare room too.
func TestNothingChanges(t *testing.T) {
	room := entries([2]int64{1, 30}, [2]int64{2, 40}, [2]int64{4, 50}, [2]int64{8, 60})
	before := slices.Clone(room)
	for n := range len(room) + 1 {
		l := api.List{Base: 10, Cycle: 100, Entries: room[:n]}
		for _, at := range edgeNumbers {
			Check(l)
			Clone(l)
			State(l, at)
			Next(l, at)
			Start(l, at)
			for class := range 8 {
				Until(l, class, at)
				From(l, class, at)
			}
		}
		if !slices.Equal(room, before) {
			t.Fatalf("the entries are %v, and were %v", room, before)
		}
	}
}

// TestNothingPanics: P1, of lists, classes and times that may not be, too; a panic ends the test.
func TestNothingPanics(t *testing.T) {
	call := func(l api.List, at int64) {
		Check(l)
		Clone(l)
		State(l, at)
		Next(l, at)
		Start(l, at)
		for _, class := range edgeClasses {
			Until(l, class, at)
			From(l, class, at)
		}
	}
	for _, a := range edgeNumbers {
		for _, b := range edgeNumbers {
			for _, at := range edgeNumbers {
				call(api.List{Base: a, Cycle: b, Extension: a}, at)
				call(api.List{Base: a, Cycle: b, Extension: b, Entries: entries([2]int64{b, a}, [2]int64{a, b}, [2]int64{1, a})}, at)
				call(api.List{Base: b, Cycle: 100, Entries: entries([2]int64{a, at}, [2]int64{5, 5})}, a)
			}
		}
	}
	call(api.List{Cycle: 1, Entries: make([]api.Entry, 100000)}, 5)
}

// TestNoSuchClass: a class that there isn't is in no State.
func TestNoSuchClass(t *testing.T) {
	l := api.List{Base: 10, Cycle: 100, Entries: entries([2]int64{255, 30})}
	for _, class := range edgeClasses {
		if class >= 0 && class <= 7 {
			continue
		}
		for _, at := range []int64{0, 10, 50} {
			wantUntil(t, l, class, at, at)
			wantFrom(t, l, class, at, -1)
		}
	}
}
