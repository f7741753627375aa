package change

import (
	"math"
	"math/rand"
	"slices"
	"testing"

	"bargate/api"
	"bargate/gate"
)

const latest = int64(1)<<62 - 1

var edgeNumbers = []int64{math.MinInt64, math.MinInt64 + 1, -1 << 62, -1 << 32, -100, -2, -1, 0, 1, 2, 9, 10, 100, 255, 256, 999999999, 1000000000, 1000000001, 1 << 32, latest - 1, latest, latest + 1, math.MaxInt64 - 1, math.MaxInt64}

var edgeClasses = []int{math.MinInt, -1 << 32, -64, -8, -1, 0, 1, 6, 7, 8, 9, 63, 64, 1 << 32, math.MaxInt}

// list: one of pieces, an Open and its Nanos each.
func list(base, cycle, extension int64, pairs ...[2]int64) api.List {
	l := api.List{Base: base, Cycle: cycle, Extension: extension}
	for _, p := range pairs {
		l.Entries = append(l.Entries, api.Entry{Open: int(p[0]), Nanos: p[1]})
	}
	return l
}

// always: a list of which the same classes may go at all times.
func always(base, open int64) api.List { return list(base, 10, 0, [2]int64{open, 10}) }

// inForce: a schedule with a list in force since its Base.
func inForce(t *testing.T, l api.List) *Schedule {
	t.Helper()
	s := &Schedule{}
	wantSet(t, s, l, l.Base, api.OK)
	wantOper(t, s, l, true)
	return s
}

func wantSet(t *testing.T, s *Schedule, l api.List, now int64, want api.Errno) {
	t.Helper()
	if e := s.Set(l, now); e != want {
		t.Errorf("Set(%+v, %d) = %d, want %d", l, now, e, want)
	}
}

func wantWaits(t *testing.T, s *Schedule, want int64, yes bool) {
	t.Helper()
	if at, ok := s.Waits(); at != want || ok != yes {
		t.Errorf("Waits() = %d, %v, want %d, %v", at, ok, want, yes)
	}
}

func same(a, b api.List) bool {
	return a.Base == b.Base && a.Cycle == b.Cycle && a.Extension == b.Extension && slices.Equal(a.Entries, b.Entries)
}

func wantOper(t *testing.T, s *Schedule, want api.List, yes bool) {
	t.Helper()
	if l, ok := s.Oper(); !same(l, want) || ok != yes {
		t.Errorf("Oper() = %+v, %v, want %+v, %v", l, ok, want, yes)
	}
}

func wantCounts(t *testing.T, s *Schedule, came, replaced int) {
	t.Helper()
	if a, b := s.Counts(); a != came || b != replaced {
		t.Errorf("Counts() = %d, %d, want %d, %d", a, b, came, replaced)
	}
}

func wantState(t *testing.T, s *Schedule, at int64, want int) {
	t.Helper()
	if got := s.State(at); got != want {
		t.Errorf("of %+v: State(%d) = %d, want %d", *s, at, got, want)
	}
}

func wantNext(t *testing.T, s *Schedule, at, want int64) {
	t.Helper()
	if got := s.Next(at); got != want {
		t.Errorf("of %+v: Next(%d) = %d, want %d", *s, at, got, want)
	}
}

func wantUntil(t *testing.T, s *Schedule, class int, at, want int64) {
	t.Helper()
	if got := s.Until(class, at); got != want {
		t.Errorf("of %+v: Until(%d, %d) = %d, want %d", *s, class, at, got, want)
	}
}

func wantFrom(t *testing.T, s *Schedule, class int, at, want int64) {
	t.Helper()
	if got := s.From(class, at); got != want {
		t.Errorf("of %+v: From(%d, %d) = %d, want %d", *s, class, at, got, want)
	}
}

func wantFits(t *testing.T, s *Schedule, class int, at, need, want int64) {
	t.Helper()
	if got := s.Fits(class, at, need); got != want {
		t.Errorf("of %+v: Fits(%d, %d, %d) = %d, want %d", *s, class, at, need, got, want)
	}
}

// TestNone: P17.1 to P17.4: the zero schedule has no list: all classes may go, for good.
func TestNone(t *testing.T) {
	var s Schedule
	wantWaits(t, &s, 0, false)
	wantOper(t, &s, api.List{}, false)
	wantCounts(t, &s, 0, 0)
	for _, at := range []int64{0, 1, 1000, latest} {
		wantState(t, &s, at, 255)
		wantNext(t, &s, at, -1)
		for class := range 8 {
			wantUntil(t, &s, class, at, -1)
			wantFrom(t, &s, class, at, at)
			wantFits(t, &s, class, at, 1, at)
			wantFits(t, &s, class, at, math.MaxInt64, at)
		}
	}
	s.Pass(1000)
	wantCounts(t, &s, 0, 0)
	wantOper(t, &s, api.List{}, false)
}

// TestExample: the document's own: a list comes into force at a cycle's beginning alone.
func TestExample(t *testing.T) {
	var s Schedule
	l := list(10, 100, 0, [2]int64{1, 100})
	wantSet(t, &s, l, 50, api.OK)
	wantWaits(t, &s, 110, true)
	wantState(t, &s, 109, 255)
	wantState(t, &s, 110, 1)
	s.Pass(109)
	wantOper(t, &s, api.List{}, false)
	wantCounts(t, &s, 0, 0)
	s.Pass(110)
	l.Base = 110
	wantOper(t, &s, l, true)
	wantWaits(t, &s, 0, false)
	wantCounts(t, &s, 1, 0)
	wantState(t, &s, 110, 1)
}

// TestSetTimes: P17.1: now and the list's time, to both edges; Check's error comes first.
func TestSetTimes(t *testing.T) {
	for _, now := range edgeNumbers {
		want := api.OK
		if now < 0 || now > latest {
			want = api.ErrTime
		}
		for _, base := range []int64{0, latest} {
			wantSet(t, &Schedule{}, list(base, 1, 0, [2]int64{1, 1}), now, want)
			wantSet(t, &Schedule{}, list(base, 0, 0, [2]int64{1, 1}), now, api.ErrConfig)
			wantSet(t, &Schedule{}, list(base, 1, 0), now, api.ErrConfig)
		}
		wantSet(t, &Schedule{}, always(-1, 1), now, api.ErrConfig)
	}
}

// TestSetTooLate: P17.1: ErrTime, where the first cycle from now on begins behind all times.
func TestSetTooLate(t *testing.T) {
	for _, c := range []struct {
		base, cycle, now int64
		want             api.Errno
	}{
		{latest - 10, 10, latest, api.OK}, {latest - 10, 11, latest - 10, api.OK}, {latest - 10, 11, latest - 9, api.ErrTime},
		{latest - 10, 10, latest - 9, api.OK}, {latest, 1000000000, latest, api.OK}, {latest - 1, 1000000000, latest, api.ErrTime},
		{0, 1, latest, api.OK}, {latest, 5, 0, api.OK},
	} {
		var s Schedule
		wantSet(t, &s, list(c.base, c.cycle, 0, [2]int64{1, 5}), c.now, c.want)
		if _, ok := s.Waits(); c.want != api.OK && ok {
			t.Errorf("%+v waits, though it was refused", c)
		}
	}
	var s Schedule
	wantSet(t, &s, list(latest-10, 10, 0, [2]int64{1, 5}), latest-9, api.OK)
	wantWaits(t, &s, latest, true)
}

// TestSetConfig: P17.1: layer 16's error, of each list that may not be.
func TestSetConfig(t *testing.T) {
	for _, l := range []api.List{
		{}, list(0, 10, 0), list(-1, 10, 0, [2]int64{1, 1}), list(latest+1, 10, 0, [2]int64{1, 1}), list(0, 0, 0, [2]int64{1, 1}),
		list(0, 1000000001, 0, [2]int64{1, 1}), list(0, 10, -1, [2]int64{1, 1}), list(0, 10, 1000000001, [2]int64{1, 1}),
		list(0, 10, 0, [2]int64{256, 1}), list(0, 10, 0, [2]int64{-1, 1}), list(0, 10, 0, [2]int64{1, 1}, [2]int64{1, 0}),
		{Cycle: 10, Entries: make([]api.Entry, 65)},
	} {
		var s Schedule
		wantSet(t, &s, l, 0, api.ErrConfig)
		wantWaits(t, &s, 0, false)
		wantOper(t, &s, api.List{}, false)
	}
}

// TestSetRefused: P17.1, P2: a refused Set changes nothing; nor does what waits come into force by it.
func TestSetRefused(t *testing.T) {
	s := inForce(t, always(0, 1))
	wantSet(t, s, always(100, 2), 5, api.OK)
	for _, now := range []int64{-1, latest + 1, 50, 100, 1000} {
		for _, l := range []api.List{{}, always(-1, 4), list(latest, 0, 0)} {
			wantSet(t, s, l, now, api.ErrConfig)
		}
		if now < 0 || now > latest {
			wantSet(t, s, always(0, 4), now, api.ErrTime)
		}
		wantOper(t, s, always(0, 1), true)
		wantWaits(t, s, 100, true)
		wantCounts(t, s, 1, 0)
	}
}

// TestSetAtOnce: P17.1: a list whose time is now is in force, its Base that time.
func TestSetAtOnce(t *testing.T) {
	var s Schedule
	wantSet(t, &s, list(10, 100, 7, [2]int64{1, 20}, [2]int64{2, 80}), 310, api.OK)
	wantWaits(t, &s, 0, false)
	wantOper(t, &s, list(310, 100, 7, [2]int64{1, 20}, [2]int64{2, 80}), true)
	wantCounts(t, &s, 1, 0)
	wantSet(t, &s, always(0, 4), 320, api.OK)
	wantOper(t, &s, always(320, 4), true)
	wantCounts(t, &s, 2, 0)
}

// TestReplace: P17.1: what waits is replaced by what is set behind it, be that at once or not.
func TestReplace(t *testing.T) {
	s := inForce(t, always(0, 1))
	wantSet(t, s, always(100, 2), 5, api.OK)
	wantSet(t, s, always(200, 4), 6, api.OK)
	wantWaits(t, s, 200, true)
	wantCounts(t, s, 1, 1)
	wantState(t, s, 150, 1)
	wantSet(t, s, always(60, 8), 7, api.OK)
	wantWaits(t, s, 60, true)
	wantCounts(t, s, 1, 2)
	wantSet(t, s, always(60, 8), 7, api.OK) // the same one
	wantCounts(t, s, 1, 3)
	wantSet(t, s, always(20, 16), 20, api.OK)
	wantWaits(t, s, 0, false)
	wantOper(t, s, always(20, 16), true)
	wantCounts(t, s, 2, 4)
	s.Pass(500)
	wantOper(t, s, always(20, 16), true)
	wantCounts(t, s, 2, 4)
}

// TestSetPasses: P17.1: Set passes first: what waits isn't replaced, if its time came.
func TestSetPasses(t *testing.T) {
	s := inForce(t, always(0, 1))
	wantSet(t, s, always(100, 2), 5, api.OK)
	wantSet(t, s, always(200, 4), 99, api.OK)
	wantCounts(t, s, 1, 1)
	wantSet(t, s, always(301, 8), 200, api.OK)
	wantOper(t, s, always(200, 4), true)
	wantWaits(t, s, 301, true)
	wantCounts(t, s, 2, 1)
	wantSet(t, s, always(400, 16), 305, api.OK)
	wantOper(t, s, always(301, 8), true)
	wantCounts(t, s, 3, 1)
	wantSet(t, s, always(400, 32), 400, api.OK) // one comes into force behind the other, at once
	wantOper(t, s, always(400, 32), true)
	wantWaits(t, s, 0, false)
	wantCounts(t, s, 5, 1)
}

// TestPass: P17.1: at its time and behind it, not ahead of it; once.
func TestPass(t *testing.T) {
	for _, now := range edgeNumbers {
		s := inForce(t, always(0, 1))
		wantSet(t, s, list(40, 60, 9, [2]int64{2, 5}), 50, api.OK)
		wantWaits(t, s, 100, true)
		s.Pass(now)
		if now < 100 {
			wantOper(t, s, always(0, 1), true)
			wantWaits(t, s, 100, true)
			wantCounts(t, s, 1, 0)
			continue
		}
		wantOper(t, s, list(100, 60, 9, [2]int64{2, 5}), true)
		wantWaits(t, s, 0, false)
		wantCounts(t, s, 2, 0)
		s.Pass(now)
		wantCounts(t, s, 2, 0)
	}
}

// TestState: P17.2: all classes ahead of the first list, though another one told them to be open then.
func TestState(t *testing.T) {
	var s Schedule
	wantSet(t, &s, list(0, 100, 0, [2]int64{1, 30}, [2]int64{2, 70}), 30, api.OK)
	wantState(t, &s, 30, 255)
	wantState(t, &s, 99, 255)
	wantState(t, &s, 100, 1)
	wantState(t, &s, 129, 1)
	wantState(t, &s, 130, 2)
	wantState(t, &s, 200, 1)
	s.Pass(100)
	wantState(t, &s, 100, 1)
	wantState(t, &s, 130, 2)
	wantSet(t, &s, list(145, 10, 0, [2]int64{4, 5}, [2]int64{8, 5}), 131, api.OK)
	wantState(t, &s, 144, 2)
	wantState(t, &s, 145, 4)
	wantState(t, &s, 150, 8)
	wantState(t, &s, 155, 4)
	wantState(t, &s, latest, []int{4, 8}[(latest-145)%10/5])
}

// longer: a list with cycles of 100 from 1000 on, in force, and a change at a time.
func longer(t *testing.T, extension, change int64) *Schedule {
	t.Helper()
	s := inForce(t, list(1000, 100, extension, [2]int64{1, 50}, [2]int64{2, 50}))
	wantSet(t, s, list(change, 70, 90, [2]int64{4, 70}), 1000, api.OK)
	wantWaits(t, s, change, true)
	return s
}

// TestLonger: P17.2: the cycle of the change doesn't begin, if it went on for at most the Extension; it is otherwise cut.
func TestLonger(t *testing.T) {
	for _, c := range []struct {
		extension, change int64
		swallowed         bool
	}{
		{30, 1320, true}, {30, 1330, true}, {30, 1331, false}, {30, 1301, true}, {30, 1399, false}, {0, 1301, false},
		{1, 1301, true}, {1, 1302, false}, {99, 1399, true}, {98, 1399, false}, {1000000000, 1399, true}, {60, 1360, true},
		{30, 1120, true}, {30, 1200, false}, {1000000000, 1300, false},
	} {
		s := longer(t, c.extension, c.change)
		begins := c.change - c.change%100
		for at := begins - 100; at < c.change; at++ {
			want := []int{1, 2}[at%100/50]
			if c.swallowed && at >= begins {
				want = 2
			}
			wantState(t, s, at, want)
		}
		wantState(t, s, c.change, 4)
		wantState(t, s, c.change+70, 4)
		s.Pass(c.change)
		wantState(t, s, c.change, 4)
	}
}

// TestFirstCycle: P17.2: the first cycle begins in any case.
func TestFirstCycle(t *testing.T) {
	for change := int64(1001); change < 1100; change++ {
		s := longer(t, 1000000000, change)
		for at := int64(1000); at < change; at++ {
			wantState(t, s, at, []int{1, 2}[at%100/50])
		}
		wantState(t, s, change, 4)
		wantNext(t, s, 1000, min(1050, change))
	}
}

// TestLongerWhat: P17.2: what goes on is the last entry that is in force, be it not the list's last.
func TestLongerWhat(t *testing.T) {
	s := inForce(t, list(0, 100, 50, [2]int64{1, 40}, [2]int64{2, 60}, [2]int64{4, 60}))
	wantSet(t, s, always(340, 8), 0, api.OK)
	wantState(t, s, 299, 2)
	wantState(t, s, 300, 2)
	wantState(t, s, 339, 2)
	wantState(t, s, 340, 8)
	s = inForce(t, list(0, 100, 50, [2]int64{1, 40}, [2]int64{2, 40}, [2]int64{4, 1}))
	wantSet(t, s, always(340, 8), 0, api.OK)
	wantState(t, s, 339, 4)
}

// TestLongerGoes: P17.2: with another change the last cycle is another one; without one all are as long.
func TestLongerGoes(t *testing.T) {
	s := longer(t, 30, 1320)
	wantState(t, s, 1310, 2)
	wantSet(t, s, always(1340, 4), 1290, api.OK)
	wantState(t, s, 1310, 1)
	wantSet(t, s, always(1530, 4), 1291, api.OK)
	wantState(t, s, 1310, 1)
	wantState(t, s, 1529, 2)
	s = longer(t, 30, 1320)
	s.Pass(1320)
	wantSet(t, s, list(1800, 100, 30, [2]int64{8, 100}), 1330, api.OK) // the new list's own cycles, and its own Extension, count
	wantState(t, s, 1790, 4)
	wantNext(t, s, 1735, 1740)
	wantNext(t, s, 1740, 1800)
}

// TestNext: P17.3: an entry, a cycle, the swallowed cycle's beginning, the change.
func TestNext(t *testing.T) {
	s := longer(t, 30, 1320)
	wantNext(t, s, 1000, 1050)
	wantNext(t, s, 1050, 1100)
	wantNext(t, s, 1250, 1300)
	wantNext(t, s, 1299, 1300)
	wantNext(t, s, 1300, 1320)
	wantNext(t, s, 1319, 1320)
	wantNext(t, s, 1320, 1390)
	wantNext(t, s, 1390, 1460)
	s = longer(t, 30, 1340)
	wantNext(t, s, 1250, 1300)
	wantNext(t, s, 1300, 1340)
	s = longer(t, 30, 1360)
	wantNext(t, s, 1300, 1350)
	wantNext(t, s, 1350, 1360)
	s = longer(t, 60, 1360)
	wantNext(t, s, 1250, 1300)
	wantNext(t, s, 1300, 1360) // what would begin at 1350 doesn't
}

// TestNextOfOne: P17.3: with a list alone that waits, or alone that is in force.
func TestNextOfOne(t *testing.T) {
	var s Schedule
	wantSet(t, &s, list(500, 100, 0, [2]int64{1, 30}, [2]int64{1, 30}), 3, api.OK)
	wantNext(t, &s, 3, 500)
	wantNext(t, &s, 499, 500)
	wantNext(t, &s, 500, 530)
	wantNext(t, &s, 530, 600)
	s.Pass(500)
	wantNext(t, &s, 500, 530)
	wantNext(t, &s, 599, 600)
	wantNext(t, &s, 600, 630)
}

// TestUntilFrom: P17.4: over the change, into the list behind it.
func TestUntilFrom(t *testing.T) {
	s := inForce(t, list(0, 100, 0, [2]int64{3, 50}, [2]int64{6, 50}))
	wantSet(t, s, list(270, 40, 0, [2]int64{2, 10}, [2]int64{13, 30}), 0, api.OK)
	wantUntil(t, s, 0, 0, 50)
	wantUntil(t, s, 0, 50, 50)
	wantUntil(t, s, 0, 200, 250)
	wantUntil(t, s, 1, 0, 280)
	wantUntil(t, s, 1, 269, 280)
	wantUntil(t, s, 2, 260, 270)
	wantUntil(t, s, 2, 280, 310)
	wantUntil(t, s, 7, 0, 0)
	wantFrom(t, s, 0, 60, 100)
	wantFrom(t, s, 0, 250, 280)
	wantFrom(t, s, 2, 0, 50)
	wantFrom(t, s, 2, 255, 255)
	wantFrom(t, s, 2, 270, 280)
	wantFrom(t, s, 3, 0, 280)
	wantFrom(t, s, 3, 280, 280)
	wantFrom(t, s, 3, 310, 320)
	wantFrom(t, s, 7, 0, -1)
	wantFrom(t, s, 7, 269, -1)
	wantFrom(t, s, 7, 270, -1)
}

// TestForGood: P17.4: Until is -1 if, from t on, both lists always have the class; a break ahead of t doesn't count.
func TestForGood(t *testing.T) {
	s := inForce(t, list(0, 100, 30, [2]int64{1, 50}, [2]int64{3, 50}))
	wantSet(t, s, list(320, 10, 0, [2]int64{3, 10}), 0, api.OK)
	wantUntil(t, s, 0, 0, -1)
	wantUntil(t, s, 1, 150, 200)
	wantUntil(t, s, 1, 250, -1) // the last cycle is longer: it doesn't close at 300
	wantUntil(t, s, 1, 320, -1)
	wantFits(t, s, 1, 0, 50, 50)
	wantFits(t, s, 1, 0, 51, 250)
	wantFits(t, s, 1, 0, math.MaxInt64, 250)
	wantFits(t, s, 1, 260, math.MaxInt64, 260)
	wantFits(t, s, 0, 7, math.MaxInt64, 7)
	wantFits(t, s, 2, 7, 1, -1)
}

// TestUntilStill: P17.4: in the longer cycle what isn't open just ahead of it stays closed.
func TestUntilStill(t *testing.T) {
	s := longer(t, 30, 1320)
	wantFrom(t, s, 0, 1250, -1)
	wantFrom(t, s, 0, 1300, -1)
	wantFrom(t, s, 0, 1249, 1249)
	wantUntil(t, s, 1, 1250, 1320)
	wantUntil(t, s, 1, 1300, 1320)
	wantFrom(t, s, 1, 1310, 1310)
	wantFrom(t, s, 2, 1250, 1320)
	wantUntil(t, s, 2, 1320, -1)
	wantUntil(t, s, 2, 1310, 1310)
}

// TestFits: P17.4: in one entry, over several, over the cycle's end; just as long, and by one more.
func TestFits(t *testing.T) {
	s := inForce(t, list(0, 100, 0, [2]int64{1, 10}, [2]int64{2, 10}, [2]int64{1, 30}, [2]int64{3, 20}, [2]int64{2, 25}, [2]int64{1, 5}))
	wantFits(t, s, 0, 0, 1, 0)
	wantFits(t, s, 0, 0, 10, 0)
	wantFits(t, s, 0, 0, 11, 20)
	wantFits(t, s, 0, 1, 10, 20)
	wantFits(t, s, 0, 0, 50, 20)
	wantFits(t, s, 0, 0, 51, -1)
	wantFits(t, s, 0, 21, 50, 120)
	wantFits(t, s, 0, 20, 50, 20)
	wantFits(t, s, 0, 21, 49, 21)
	wantFits(t, s, 0, 61, 15, 95)
	wantFits(t, s, 0, 95, 15, 95)
	wantFits(t, s, 0, 96, 15, 120)
	wantFits(t, s, 0, 96, 14, 96)
	wantFits(t, s, 1, 0, 45, 50)
	wantFits(t, s, 1, 0, 46, -1)
	wantFits(t, s, 1, 51, 45, 150)
	wantFits(t, s, 2, 0, 1, -1)
	wantFits(t, s, 0, 0, math.MaxInt64, -1)
}

// TestFitsOverChange: P17.4: what is open on both sides of a change is open without a break, though the change is far off.
func TestFitsOverChange(t *testing.T) {
	for _, far := range []int64{0, 1, 2, 50, 1 << 40, 1 << 50} {
		s := inForce(t, list(0, 100, 0, [2]int64{1, 50}, [2]int64{2, 50}))
		change := 100*far + 230
		wantSet(t, s, list(change, 60, 0, [2]int64{1, 20}, [2]int64{2, 30}, [2]int64{5, 10}), 0, api.OK)
		wantFits(t, s, 0, 0, 50, 0)
		wantFits(t, s, 0, 1, 50, min(100, change-30))
		wantFits(t, s, 0, 210, 50, map[bool]int64{true: -1, false: 300}[far == 0])
		wantFits(t, s, 0, 0, 51, -1)
		wantFits(t, s, 1, 0, 51, -1)
		wantFits(t, s, 1, 0, 50, 50)
		wantFits(t, s, 2, 0, 10, change+50)
		wantFits(t, s, 2, 0, 11, -1)
		s = inForce(t, list(0, 100, 30, [2]int64{1, 50}, [2]int64{2, 50})) // and with a longer cycle between
		wantSet(t, s, list(change, 60, 0, [2]int64{3, 20}, [2]int64{1, 40}), 0, api.OK)
		wantFits(t, s, 1, 0, 51, change-80)
		wantFits(t, s, 1, 0, 100, change-80)
		wantFits(t, s, 1, 0, 101, -1)
		wantFits(t, s, 0, 0, 51, change)
		wantFits(t, s, 1, change-20, 40, change-20)
		wantFits(t, s, 1, change-20, 41, -1)
	}
}

// TestFitsBehind: P17.4: into an opening of the list behind a change, which goes over its cycle's end.
func TestFitsBehind(t *testing.T) {
	s := inForce(t, list(0, 1000, 0, [2]int64{1, 10}, [2]int64{0, 990}))
	wantSet(t, s, list(5000, 100, 0, [2]int64{1, 20}, [2]int64{0, 60}, [2]int64{1, 20}), 0, api.OK)
	wantFits(t, s, 0, 0, 10, 0)
	wantFits(t, s, 0, 1, 10, 1000)
	wantFits(t, s, 0, 4001, 10, 5000)
	wantFits(t, s, 0, 0, 20, 5000)
	wantFits(t, s, 0, 0, 40, 5080)
	wantFits(t, s, 0, 5081, 40, 5180)
	wantFits(t, s, 0, 0, 41, -1)
	s.Pass(5000)
	wantFits(t, s, 0, 5000, 40, 5080)
}

// TestFitsAheadOfAll: P17.4: ahead of the first list all is open, up to it, or farther.
func TestFitsAheadOfAll(t *testing.T) {
	var s Schedule
	wantSet(t, &s, list(1000, 100, 0, [2]int64{1, 20}, [2]int64{2, 80}), 0, api.OK)
	wantFits(t, &s, 0, 0, 1020, 0)
	wantFits(t, &s, 0, 0, 1021, -1)
	wantFits(t, &s, 0, 1, 1020, -1)
	wantFits(t, &s, 1, 0, 1000, 0)
	wantFits(t, &s, 1, 1, 1000, -1)
	wantFits(t, &s, 1, 990, 10, 990)
	wantFits(t, &s, 1, 990, 11, 1020)
	wantFits(t, &s, 2, 990, 10, 990)
	wantFits(t, &s, 2, 990, 11, -1)
	wantUntil(t, &s, 2, 5, 1000)
	wantFrom(t, &s, 2, 5, 5)
	wantFrom(t, &s, 2, 1000, -1)
}

// TestFitsManyEntries: P17.4: as many entries as may be, over a change that is as far off as may be.
func TestFitsManyEntries(t *testing.T) {
	l := api.List{Cycle: gate.MaxCycle}
	for i := range gate.MaxEntries {
		l.Entries = append(l.Entries, api.Entry{Open: 1 - i%2, Nanos: int64(1 + i)})
	}
	s := inForce(t, l)
	l.Base = latest
	wantSet(t, s, l, 0, api.OK)
	wantWaits(t, s, latest, true)
	wantFits(t, s, 0, 0, 63, 62*63/2)
	wantFits(t, s, 0, 0, 64, -1)
	wantFits(t, s, 0, latest-5, 63, latest+62*63/2)
}

// TestLatest: P17.2 to P17.4: at the latest times what is told may be beyond them.
func TestLatest(t *testing.T) {
	s := inForce(t, list(latest-100, 60, 40, [2]int64{1, 30}, [2]int64{2, 30}))
	wantSet(t, s, list(latest, gate.MaxCycle, 0, [2]int64{3, 10}, [2]int64{4, gate.MaxCycle}), latest-50, api.OK)
	wantWaits(t, s, latest, true)
	wantState(t, s, latest-40, 2)
	wantState(t, s, latest-1, 2)
	wantState(t, s, latest, 3)
	wantNext(t, s, latest-1, latest)
	wantNext(t, s, latest, latest+10)
	wantUntil(t, s, 1, latest-70, latest+10)
	wantFrom(t, s, 2, latest-1, latest+10)
	wantFits(t, s, 1, latest-100, 80, latest-70)
	wantFits(t, s, 1, latest-100, 81, -1)
	wantFits(t, s, 2, latest, gate.MaxCycle-10, latest+10)
	wantFits(t, s, 2, latest, gate.MaxCycle-9, -1)
}

// TestNoSuchClass: a class that there isn't is in no State.
func TestNoSuchClass(t *testing.T) {
	waits := inForce(t, always(0, 255))
	wantSet(t, waits, always(50, 255), 0, api.OK)
	for _, s := range []*Schedule{{}, inForce(t, always(0, 255)), waits} {
		for _, class := range edgeClasses {
			if class >= 0 && class <= 7 {
				wantUntil(t, s, class, 20, -1)
				continue
			}
			wantUntil(t, s, class, 20, 20)
			wantFrom(t, s, class, 20, -1)
			wantFits(t, s, class, 20, 1, -1)
		}
	}
}

// TestBelowNone: a time below 0 counts as 0, where the first time from it on is asked.
func TestBelowNone(t *testing.T) {
	s := inForce(t, list(0, 100, 0, [2]int64{1, 50}, [2]int64{2, 50}))
	wantSet(t, s, always(2000, 6), 0, api.OK)
	for _, at := range []int64{math.MinInt64, math.MinInt64 + 5, -100, -1, 0} {
		wantUntil(t, s, 0, at, 50)
		wantUntil(t, s, 1, at, 0)
		wantFrom(t, s, 1, at, 50)
		wantFits(t, s, 0, at, 50, 0)
		wantFits(t, s, 0, at, 51, -1)
		wantFits(t, s, 1, at, 51, 1950)
		wantFits(t, s, 3, at, 1, -1)
	}
}

// spoil: all that a list's entries have room for is written over.
func spoil(l api.List) {
	all := l.Entries[:cap(l.Entries)]
	for i := range all {
		all[i] = api.Entry{Open: 99, Nanos: 99}
	}
}

// TestOfItsOwn: P2: what is handed in is neither kept nor changed, its spare room too; what is answered is of its own.
func TestOfItsOwn(t *testing.T) {
	room := list(40, 100, 7, [2]int64{1, 50}, [2]int64{2, 50}, [2]int64{4, 50})
	before := gate.Clone(room)
	l := room
	l.Entries = room.Entries[:2]
	var s Schedule
	wantSet(t, &s, l, 0, api.OK)
	if !same(room, before) {
		t.Fatalf("Set changed the list to %+v", room)
	}
	spoil(room)
	wantState(t, &s, 40, 1)
	wantState(t, &s, 90, 2)
	s.Pass(40)
	want := list(40, 100, 7, [2]int64{1, 50}, [2]int64{2, 50})
	a, _ := s.Oper()
	b, _ := s.Oper()
	spoil(a)
	if !same(b, want) {
		t.Errorf("an answer of Oper changed another one: %+v", b)
	}
	wantOper(t, &s, want, true)
	wantState(t, &s, 90, 2)
}

// TestAsking: P2: what is asked changes nothing, nor hangs on what was asked before.
func TestAsking(t *testing.T) {
	s := longer(t, 30, 1320)
	for _, at := range []int64{1319, 1320, 5000, 1000, 1310, 1250} {
		for class := range 8 {
			s.State(at)
			s.Next(at)
			s.Until(class, at)
			s.From(class, at)
			s.Fits(class, at, 10)
		}
		wantWaits(t, s, 1320, true)
		wantCounts(t, s, 1, 0)
		wantState(t, s, 1310, 2)
		wantState(t, s, 1000, 1)
	}
}

// TestSchedulesOfTheirOwn: of two neither hangs on the other.
func TestSchedulesOfTheirOwn(t *testing.T) {
	l := always(0, 1)
	a, b := inForce(t, l), inForce(t, l)
	wantSet(t, a, always(50, 2), 0, api.OK)
	wantWaits(t, b, 0, false)
	wantState(t, b, 60, 1)
	wantCounts(t, b, 1, 0)
}

// TestNothingPanics: P1, at all arguments; a panic ends the test, and so does a call that doesn't end.
func TestNothingPanics(t *testing.T) {
	ask := func(s *Schedule) {
		for _, at := range edgeNumbers {
			s.State(at)
			s.Next(at)
			for i, class := range edgeClasses {
				s.Until(class, at)
				s.From(class, at)
				s.Fits(class, at, edgeNumbers[(i+len(edgeClasses))%len(edgeNumbers)])
				s.Fits(5, at, edgeNumbers[i])
			}
		}
	}
	lists := []api.List{{}, always(0, 1), always(latest, 32), list(7, 10, 4, [2]int64{32, 3}, [2]int64{1, 3}), list(latest-1000, gate.MaxCycle, gate.MaxCycle, [2]int64{33, 5}, [2]int64{6, 7})}
	ask(&Schedule{})
	for _, a := range lists {
		for _, b := range lists {
			for _, now := range edgeNumbers {
				for _, then := range edgeNumbers {
					var s Schedule
					s.Set(a, now)
					s.Set(b, then) // times that fall, too
					s.Pass(now)
					s.Set(a, now)
					if now%7 == 0 {
						ask(&s)
					}
				}
			}
		}
	}
}

// model is a schedule told otherwise: nanosecond by nanosecond.
type model struct {
	oper, waits    *api.List
	came, replaced int
}

// entry: which entry of a list is in force, and whether its force begins just then.
func entry(l *api.List, t int64) (api.Entry, bool) {
	at := (t - l.Base) % l.Cycle
	for i, e := range l.Entries {
		if at < e.Nanos || i == len(l.Entries)-1 {
			return e, at == 0
		}
		at -= e.Nanos
	}
	panic("no entry")
}

func (m *model) set(l api.List, now int64) {
	m.pass(now)
	if m.waits != nil {
		m.replaced++
	}
	c := gate.Clone(l)
	for c.Base < now {
		c.Base += c.Cycle
	}
	m.waits = &c
	m.pass(now)
}

func (m *model) pass(now int64) {
	if m.waits != nil && m.waits.Base <= now {
		m.oper, m.waits = m.waits, nil
		m.came++
	}
}

// swallowed: the beginning of the cycle that doesn't begin; false: there is none.
func (m *model) swallowed() (int64, bool) {
	if m.oper == nil || m.waits == nil {
		return 0, false
	}
	for begin := m.oper.Base + m.oper.Cycle; begin < m.waits.Base; begin += m.oper.Cycle {
		if gone := m.waits.Base - begin; gone < m.oper.Cycle && gone <= m.oper.Extension {
			return begin, true
		}
	}
	return 0, false
}

func (m *model) state(t int64) int {
	if m.waits != nil && t >= m.waits.Base {
		e, _ := entry(m.waits, t)
		return e.Open
	}
	if m.oper == nil {
		return 255
	}
	if begin, yes := m.swallowed(); yes {
		t = min(t, begin-1)
	}
	e, _ := entry(m.oper, t)
	return e.Open
}

// changes: may the entry in force change just then?
func (m *model) changes(t int64) bool {
	if m.waits != nil && t >= m.waits.Base {
		_, begins := entry(m.waits, t)
		return begins
	}
	if begin, yes := m.swallowed(); yes && t > begin {
		return false
	}
	if m.oper == nil {
		return false
	}
	_, begins := entry(m.oper, t)
	return begins
}

// seek: the first time, from one on and ahead of another, that is so; -1: none.
func seek(from, to int64, is func(int64) bool) int64 {
	for t := from; t < to; t++ {
		if is(t) {
			return t
		}
	}
	return -1
}

// compare: what the schedule answers, at a time, against its model.
func compare(t *testing.T, s *Schedule, m *model, now, need int64) {
	t.Helper()
	far := now + 60 // a time from which on all goes on for some cycles as it did for some before
	if m.waits != nil {
		far = max(now, m.waits.Base) + 60
	}
	states := make([]int, far+need+60-now)
	for i := range states {
		states[i] = m.state(now + int64(i))
	}
	wantState(t, s, now, states[0])
	wantNext(t, s, now, seek(now+1, far, m.changes))
	for class := range 8 {
		in := func(x int64) bool { return states[x-now]&(1<<class) != 0 }
		wantFrom(t, s, class, now, seek(now, far, in))
		wantUntil(t, s, class, now, seek(now, far, func(x int64) bool { return !in(x) }))
		first, long := int64(-1), int64(0)
		for x := now + int64(len(states)) - 1; x >= now; x-- {
			if long++; !in(x) {
				long = 0
			}
			if long >= need && x < far {
				first = x
			}
		}
		wantFits(t, s, class, now, need, first)
	}
}

// someList: a short one, so that what it says comes again and again.
func someList(r *rand.Rand, now int64) api.List {
	l := list(max(now+r.Int63n(120)-60, 0), 1+r.Int63n(16), r.Int63n(12))
	for range 1 + r.Intn(5) {
		open := r.Intn(256)
		if r.Intn(3) == 0 {
			open = []int{0, 255, 254, 127}[r.Intn(4)]
		}
		l.Entries = append(l.Entries, api.Entry{Open: open, Nanos: 1 + r.Int63n(7)})
	}
	return l
}

// TestManySteps: P17.1 to P17.4: a schedule and its model say the same, step by step.
func TestManySteps(t *testing.T) {
	r := rand.New(rand.NewSource(17))
	swallowed, replaced := 0, 0
	for range 300 {
		var s Schedule
		var m model
		now := int64(0)
		for range 40 {
			now += r.Int63n(12)
			if r.Intn(4) == 0 {
				l := someList(r, now)
				m.set(l, now)
				wantSet(t, &s, l, now, api.OK)
			} else if r.Intn(2) == 0 {
				m.pass(now)
				s.Pass(now)
			}
			if m.oper != nil {
				wantOper(t, &s, *m.oper, true)
			} else {
				wantOper(t, &s, api.List{}, false)
			}
			if m.waits != nil {
				wantWaits(t, &s, m.waits.Base, true)
			} else {
				wantWaits(t, &s, 0, false)
			}
			wantCounts(t, &s, m.came, m.replaced)
			for range 3 {
				compare(t, &s, &m, now+r.Int63n(70), 1+r.Int63n(30))
			}
			if _, yes := m.swallowed(); yes {
				swallowed++
			}
			if t.Failed() {
				t.FailNow()
			}
		}
		replaced += m.replaced
	}
	if swallowed < 300 || replaced < 300 {
		t.Errorf("%d steps with a longer cycle, %d lists replaced: too few", swallowed, replaced)
	}
}
