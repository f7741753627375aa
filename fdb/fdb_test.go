package fdb

import (
	"math"
	"math/rand"
	"slices"
	"testing"

	"bargate/api"
)

// lastTime is the last time that is handed over.
const lastTime = 1<<62 - 1

var (
	edgeInts  = []int{math.MinInt, math.MinInt + 1, -1 << 32, -1, 0, 1, 4094, 4095, 1 << 32, 1<<32 + 1, math.MaxInt - 1, math.MaxInt}
	edgeTimes = []int64{math.MinInt64, math.MinInt64 + 1, -1 << 62, -1, 0, 1, lastTime, 1 << 62, math.MaxInt64 - 1, math.MaxInt64}
)

// station: the address of the station n.
func station(n int) api.Mac { return api.Mac{2, 0, 0, 0, byte(n >> 8), byte(n)} }

func wantLearn(t *testing.T, x *Table, vid int, m api.Mac, port int, now int64, want api.Errno) {
	t.Helper()
	if e := x.Learn(vid, m, port, now); e != want {
		t.Errorf("Learn(%d, %v, %d, %d) = %d, want %d", vid, m, port, now, e, want)
	}
}

func wantFound(t *testing.T, x *Table, vid int, m api.Mac, now int64, port int) {
	t.Helper()
	if p, e := x.Find(vid, m, now); p != port || e != api.OK {
		t.Errorf("Find(%d, %v, %d) = %d, %d, want %d", vid, m, now, p, e, port)
	}
}

func wantMissing(t *testing.T, x *Table, vid int, m api.Mac, now int64) {
	t.Helper()
	if p, e := x.Find(vid, m, now); p != 0 || e != api.ErrMissing {
		t.Errorf("Find(%d, %v, %d) = %d, %d, want ErrMissing and 0", vid, m, now, p, e)
	}
}

func wantAll(t *testing.T, x *Table, want ...Entry) {
	t.Helper()
	if got := x.All(); !slices.Equal(got, want) {
		t.Errorf("All() = %v, want %v", got, want)
	}
}

func wantCount(t *testing.T, what string, got, want int) {
	t.Helper()
	if got != want {
		t.Errorf("%s = %d, want %d", what, got, want)
	}
}

func TestNumbers(t *testing.T) {
	if MaxEntries != 1024 || Age != 300 {
		t.Error("the constants are others")
	}
}

// TestRoom: P12.1: so many stations have room, and no more.
func TestRoom(t *testing.T) {
	for _, c := range [][2]int{
		{math.MinInt, 0}, {-1 << 32, 0}, {-1, 0}, {0, 0}, {1, 1}, {2, 2}, {100, 100},
		{1023, 1023}, {1024, 1024}, {1025, 1024}, {1 << 20, 1024}, {1<<32 + 1, 1024}, {math.MaxInt, 1024},
	} {
		x := New(c[0], 100)
		wantAll(t, x)
		wantCount(t, "Lost", x.Lost(), 0)
		for n := range c[1] {
			wantLearn(t, x, 1, station(n), n, 0, api.OK)
		}
		wantLearn(t, x, 1, station(c[1]), 5, 0, api.ErrFull)
		wantLearn(t, x, 1, station(c[1]), 5, 99, api.ErrFull)
		wantCount(t, "Lost", x.Lost(), 2)
		all := x.All()
		wantCount(t, "stations", len(all), c[1])
		for n, e := range all {
			if e != (Entry{1, station(n), n, 0}) {
				t.Errorf("of %d the station %d is %v", c[0], n, e)
			}
		}
		wantMissing(t, x, 1, station(c[1]), 99)
	}
}

// TestNoRoom: P12.2: without room each station is one that had none.
func TestNoRoom(t *testing.T) {
	x := New(0, 100)
	for n := range 10 {
		wantLearn(t, x, 1, station(n), 0, int64(n), api.ErrFull)
		wantCount(t, "Lost", x.Lost(), n+1)
	}
	wantLearn(t, x, 1, api.Mac{1}, 0, 10, api.ErrForm) // named first, and not counted
	wantCount(t, "Lost", x.Lost(), 10)
	wantAll(t, x)
	wantCount(t, "Sweep", x.Sweep(1000), 0)
	wantCount(t, "Flush", x.Flush(0), 0)
}

// TestOld: P12.1: old is what was heard age ago, or longer.
func TestOld(t *testing.T) {
	for _, age := range []int64{1, 2, 100, Age * 1000000000, lastTime} {
		for _, at := range []int64{0, 1, 50, lastTime - age} {
			x := New(4, age)
			wantLearn(t, x, 1, station(1), 3, at, api.OK)
			wantFound(t, x, 1, station(1), at, 3)
			wantFound(t, x, 1, station(1), at+age-1, 3)
			wantCount(t, "Sweep ahead of that", x.Sweep(at+age-1), 0)
			wantAll(t, x, Entry{1, station(1), 3, at})
			wantMissing(t, x, 1, station(1), at+age)
			wantAll(t, x, Entry{1, station(1), 3, at}) // Find forgets nothing
			wantCount(t, "Sweep", x.Sweep(at+age), 1)
			wantAll(t, x)
			wantCount(t, "Sweep anew", x.Sweep(at+age), 0)
		}
	}
}

// TestAgeOfNothing: P12.1: an age of 0, or below, makes all old at once.
func TestAgeOfNothing(t *testing.T) {
	for _, age := range []int64{0, -1, -100, math.MinInt64} {
		x := New(2, age)
		for n := range 5 {
			wantLearn(t, x, 1, station(n), n, 7, api.OK) // the one ahead of it makes room
			wantMissing(t, x, 1, station(n), 7)
			wantAll(t, x, Entry{1, station(n), n, 7})
		}
		wantCount(t, "Sweep", x.Sweep(7), 1)
		wantCount(t, "Lost", x.Lost(), 0)
	}
}

// TestNeverOld: an age that no time comes to.
func TestNeverOld(t *testing.T) {
	for _, age := range []int64{1 << 62, math.MaxInt64} {
		x := New(2, age)
		wantLearn(t, x, 1, station(1), 3, 0, api.OK)
		wantFound(t, x, 1, station(1), lastTime, 3)
		wantCount(t, "Sweep", x.Sweep(lastTime), 0)
	}
}

// TestExample: a station that was heard 300 seconds ago isn't found.
func TestExample(t *testing.T) {
	const second = 1000000000
	x := New(MaxEntries, Age*second)
	wantLearn(t, x, 5, station(1), 2, 10*second, api.OK)
	wantFound(t, x, 5, station(1), 310*second-1, 2)
	wantMissing(t, x, 5, station(1), 310*second)
}

// TestSweep: P12.1: those that are old go, the others stay in their order.
func TestSweep(t *testing.T) {
	x := New(10, 100)
	for n := range 6 {
		wantLearn(t, x, 1, station(n), n, int64(10*n), api.OK)
	}
	wantLearn(t, x, 1, station(0), 9, 60, api.OK)
	wantCount(t, "Sweep", x.Sweep(109), 0)
	wantCount(t, "Sweep", x.Sweep(120), 2)
	wantAll(t, x, Entry{1, station(3), 3, 30}, Entry{1, station(4), 4, 40}, Entry{1, station(5), 5, 50}, Entry{1, station(0), 9, 60})
	wantCount(t, "Sweep", x.Sweep(150), 3)
	wantAll(t, x, Entry{1, station(0), 9, 60})
	wantCount(t, "Sweep", x.Sweep(lastTime), 1)
	wantAll(t, x)
}

// TestFlush: P12.1: all at a port go, of all VLANs, the old ones too; the others stay in their order.
func TestFlush(t *testing.T) {
	x := New(10, 100)
	wantLearn(t, x, 1, station(1), 3, 0, api.OK)
	wantLearn(t, x, 1, station(2), 4, 50, api.OK)
	wantLearn(t, x, 2, station(1), 3, 60, api.OK)
	wantLearn(t, x, 2, station(2), 5, 70, api.OK)
	wantLearn(t, x, 3, station(3), 3, 80, api.OK)
	wantMissing(t, x, 1, station(1), 120)
	for _, port := range append(edgeInts, 2, 6) {
		wantCount(t, "Flush of a port without stations", x.Flush(port), 0)
	}
	wantCount(t, "Flush", x.Flush(3), 3)
	wantAll(t, x, Entry{1, station(2), 4, 50}, Entry{2, station(2), 5, 70})
	wantMissing(t, x, 2, station(1), 120)
	wantMissing(t, x, 3, station(3), 120)
	wantFound(t, x, 2, station(2), 120, 5)
	wantCount(t, "Flush anew", x.Flush(3), 0)
	wantLearn(t, x, 2, station(1), 6, 130, api.OK)
	wantFound(t, x, 2, station(1), 130, 6)
}

// TestFlushMakesRoom: so that a station comes in that had none; what had none stays counted.
func TestFlushMakesRoom(t *testing.T) {
	x := New(2, 100)
	wantLearn(t, x, 1, station(1), 3, 0, api.OK)
	wantLearn(t, x, 1, station(2), 4, 0, api.OK)
	wantLearn(t, x, 1, station(3), 5, 0, api.ErrFull)
	wantCount(t, "Flush", x.Flush(4), 1)
	wantLearn(t, x, 1, station(3), 5, 0, api.OK)
	wantAll(t, x, Entry{1, station(1), 3, 0}, Entry{1, station(3), 5, 0})
	wantCount(t, "Lost", x.Lost(), 1)
}

// TestGroups: P12.2: a Group is no station: nothing is swept, learnt or counted.
func TestGroups(t *testing.T) {
	x := New(1, 100)
	wantLearn(t, x, 1, station(1), 3, 0, api.OK)
	for _, m := range []api.Mac{{1}, {3, 1}, {255, 255, 255, 255, 255, 255}, {0x01, 0x80, 0xC2}} {
		wantLearn(t, x, 1, m, 3, 500, api.ErrForm)
		wantMissing(t, x, 1, m, 500)
	}
	wantAll(t, x, Entry{1, station(1), 3, 0})
	wantCount(t, "Lost", x.Lost(), 0)
	for n, m := range []api.Mac{{}, {0, 1}, {2}, {254, 255, 255, 255, 255, 255}} { // the first byte's lowest bit alone counts
		y := New(1, 100)
		wantLearn(t, y, 1, m, n, 0, api.OK)
		wantFound(t, y, 1, m, 0, n)
	}
}

// TestStations: P12.2: a station is a VLAN and an address, whole.
func TestStations(t *testing.T) {
	x := New(20, 100)
	macs := []api.Mac{{2, 1}, {2, 2}, {2, 1, 1}, {2, 1, 0, 1}, {2, 1, 0, 0, 1}, {2, 1, 0, 0, 0, 1}, {4, 1}}
	for n, m := range macs {
		wantLearn(t, x, 1, m, n+1, 0, api.OK)
		wantLearn(t, x, 2, m, n+101, 0, api.OK)
	}
	wantCount(t, "stations", len(x.All()), 14)
	for n, m := range macs {
		wantFound(t, x, 1, m, 0, n+1)
		wantFound(t, x, 2, m, 0, n+101)
		wantMissing(t, x, 3, m, 0)
		wantMissing(t, x, 0, m, 0)
	}
	wantMissing(t, x, 1, api.Mac{2}, 0)
}

// TestHeardAnew: P12.2: a station is where it was heard last, since then, and behind all others.
func TestHeardAnew(t *testing.T) {
	x := New(3, 100)
	for n := range 3 {
		wantLearn(t, x, 1, station(n), n, int64(n), api.OK)
	}
	wantLearn(t, x, 1, station(1), 7, 50, api.OK) // there is room for what is there
	wantFound(t, x, 1, station(1), 50, 7)
	wantAll(t, x, Entry{1, station(0), 0, 0}, Entry{1, station(2), 2, 2}, Entry{1, station(1), 7, 50})
	wantLearn(t, x, 1, station(0), 0, 50, api.OK) // at the same time and the same port
	wantAll(t, x, Entry{1, station(2), 2, 2}, Entry{1, station(1), 7, 50}, Entry{1, station(0), 0, 50})
	wantLearn(t, x, 1, station(0), 8, 50, api.OK) // the last one already
	wantAll(t, x, Entry{1, station(2), 2, 2}, Entry{1, station(1), 7, 50}, Entry{1, station(0), 8, 50})
	wantFound(t, x, 1, station(1), 149, 7)
	wantMissing(t, x, 1, station(1), 150)
	wantCount(t, "Lost", x.Lost(), 0)
}

// TestLearnSweeps: P12.2: what is old makes room, and is gone, whoever is learnt.
func TestLearnSweeps(t *testing.T) {
	x := New(2, 100)
	wantLearn(t, x, 1, station(1), 1, 0, api.OK)
	wantLearn(t, x, 1, station(2), 2, 10, api.OK)
	wantLearn(t, x, 1, station(3), 3, 99, api.ErrFull)
	wantAll(t, x, Entry{1, station(1), 1, 0}, Entry{1, station(2), 2, 10})
	wantLearn(t, x, 1, station(3), 3, 100, api.OK)
	wantAll(t, x, Entry{1, station(2), 2, 10}, Entry{1, station(3), 3, 100})
	wantLearn(t, x, 1, station(3), 3, 110, api.OK)
	wantAll(t, x, Entry{1, station(3), 3, 110})
	wantLearn(t, x, 1, station(3), 4, 500, api.OK) // it was old itself
	wantAll(t, x, Entry{1, station(3), 4, 500})
	wantCount(t, "Lost", x.Lost(), 1)
}

// TestRawNumbers: VLANs and ports are kept as they are told.
func TestRawNumbers(t *testing.T) {
	x := New(MaxEntries, 100)
	for _, vid := range edgeInts {
		for _, port := range edgeInts {
			wantLearn(t, x, vid, station(1), port, 0, api.OK)
			wantFound(t, x, vid, station(1), 0, port)
		}
	}
	wantCount(t, "stations", len(x.All()), len(edgeInts))
	wantCount(t, "Flush", x.Flush(math.MaxInt), len(edgeInts))
}

// TestNothingPanics: P1; a panic ends the test.
func TestNothingPanics(t *testing.T) {
	for _, room := range []int{math.MinInt, -1, 0, 1, 3, math.MaxInt} {
		for _, age := range edgeTimes {
			x := New(room, age)
			for _, a := range edgeTimes {
				for _, b := range edgeTimes {
					x.Learn(int(a), station(int(b)), int(b), b)
					x.Learn(int(b), api.Mac{1}, int(a), a)
					x.Find(int(a), station(int(a)), b)
					x.Sweep(a)
					x.Learn(int(b), station(int(a)), int(a), a)
					x.Flush(int(b))
					x.All()
					x.Lost()
				}
			}
		}
	}
}

// TestMemory: P2: answers are of their own, with the room behind them.
func TestMemory(t *testing.T) {
	x := New(10, 100)
	wantLearn(t, x, 1, station(1), 1, 0, api.OK)
	wantLearn(t, x, 1, station(2), 2, 1, api.OK)
	wantLearn(t, x, 1, station(3), 3, 2, api.OK)
	kept := []Entry{{1, station(1), 1, 0}, {1, station(2), 2, 1}, {1, station(3), 3, 2}}
	first, second := x.All(), x.All()
	for i := range first[:cap(first)] {
		first[:cap(first)][i] = Entry{Port: 99}
	}
	wantAll(t, x, kept...)
	if !slices.Equal(second, kept) {
		t.Errorf("another answer is %v", second)
	}
	x.Flush(1)
	wantLearn(t, x, 1, station(2), 9, 3, api.OK)
	if !slices.Equal(second, kept) {
		t.Errorf("an answer is %v, now that stations have moved", second)
	}
	x.Sweep(1000)
	none := x.All()
	wantLearn(t, x, 1, station(4), 4, 1000, api.OK)
	for i := range none[:cap(none)] {
		none[:cap(none)][i] = Entry{Port: 99}
	}
	wantAll(t, x, Entry{1, station(4), 4, 1000})
}

// TestTablesOfTheirOwn: one table's doing is none of another's.
func TestTablesOfTheirOwn(t *testing.T) {
	x, y := New(1, 100), New(1, 100)
	wantLearn(t, x, 1, station(1), 1, 0, api.OK)
	wantLearn(t, x, 1, station(2), 1, 0, api.ErrFull)
	wantAll(t, y)
	wantCount(t, "Lost", y.Lost(), 0)
	wantLearn(t, y, 1, station(2), 2, 0, api.OK)
	wantMissing(t, x, 1, station(2), 0)
}

// model is a table told otherwise: stations by what they are, and when, in steps, each was heard.
type model struct {
	room, lost, steps int
	age               int64
	stations          map[[2]int]heard
}

type heard struct {
	port, step int
	seen       int64
}

func (m *model) sweep(now int64) int {
	return m.drop(func(h heard) bool { return h.seen+m.age <= now })
}

func (m *model) drop(goes func(heard) bool) int {
	n := 0
	for key, h := range m.stations {
		if goes(h) {
			delete(m.stations, key)
			n++
		}
	}
	return n
}

func (m *model) learn(vid, n, port int, now int64) api.Errno {
	m.sweep(now)
	key := [2]int{vid, n}
	if _, ok := m.stations[key]; !ok && len(m.stations) == m.room {
		m.lost++
		return api.ErrFull
	}
	m.steps++
	m.stations[key] = heard{port, m.steps, now}
	return api.OK
}

func (m *model) all() []Entry {
	var keys [][2]int
	for key := range m.stations {
		keys = append(keys, key)
	}
	slices.SortFunc(keys, func(a, b [2]int) int { return m.stations[a].step - m.stations[b].step })
	var out []Entry
	for _, key := range keys {
		h := m.stations[key]
		out = append(out, Entry{key[0], station(key[1]), h.port, h.seen})
	}
	return out
}

func (m *model) find(t *testing.T, x *Table, vid, n int, now int64) {
	t.Helper()
	h, ok := m.stations[[2]int{vid, n}]
	if ok && now < h.seen+m.age {
		wantFound(t, x, vid, station(n), now, h.port)
	} else {
		wantMissing(t, x, vid, station(n), now)
	}
}

// TestManySteps: a table and its model say the same, step by step.
func TestManySteps(t *testing.T) {
	r := rand.New(rand.NewSource(12))
	full, swept := 0, 0
	for round := range 40 {
		room, age := round%9, int64(round%5*20)
		x, m := New(room, age), &model{room: room, age: age, stations: map[[2]int]heard{}}
		now := int64(0)
		for range 1000 {
			now += int64(r.Intn(4) * r.Intn(6))
			vid, n, port := r.Intn(3), r.Intn(5), r.Intn(4)
			switch r.Intn(12) {
			case 0:
				want := m.sweep(now)
				wantCount(t, "Sweep", x.Sweep(now), want)
				swept += want
			case 1:
				want := m.drop(func(h heard) bool { return h.port == port })
				wantCount(t, "Flush", x.Flush(port), want)
			case 2, 3, 4, 5:
				m.find(t, x, vid, n, now)
			default:
				wantLearn(t, x, vid, station(n), port, now, m.learn(vid, n, port, now))
			}
			wantAll(t, x, m.all()...)
			wantCount(t, "Lost", x.Lost(), m.lost)
		}
		full += m.lost
	}
	if full < 100 || swept < 100 {
		t.Errorf("%d had no room, %d were swept: too few", full, swept)
	}
}
