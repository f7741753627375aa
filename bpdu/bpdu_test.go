package bpdu

import (
	"bytes"
	"math"
	"testing"

	"bargate/api"
	"bargate/mac"
)

var edgeInts = []int{math.MinInt, -65536, -1, 0, 1, 2, 3, 4, 255, 256, 65535, 65536, math.MaxInt}

// rapid and config: messages of which no two numbers are the same, so that none can stand in another's place.
func rapid() api.Bpdu {
	b := config()
	b.Kind, b.Proposal, b.Role, b.Forwarding = Rapid, true, Root, true
	return b
}

func config() api.Bpdu {
	return api.Bpdu{
		Kind:   Config,
		Vector: api.Vector{Root: 0x0102030405060708, Cost: 0x090A0B0C, Bridge: 0x1112131415161718, Port: 0x191A},
		Age:    0x1B1C, MaxAge: 0x1D1E, Hello: 0x1F20, Delay: 0x2122,
	}
}

// bytesOf: the payload of config and rapid, with these first bytes and flags.
func bytesOf(version, kind, flags byte) []byte {
	b := []byte{
		0x42, 0x42, 0x03, 0, 0, version, kind, flags,
		1, 2, 3, 4, 5, 6, 7, 8,
		9, 0x0A, 0x0B, 0x0C,
		0x11, 0x12, 0x13, 0x14, 0x15, 0x16, 0x17, 0x18,
		0x19, 0x1A, 0x1B, 0x1C, 0x1D, 0x1E, 0x1F, 0x20, 0x21, 0x22,
	}
	if kind == 2 {
		b = append(b, 0)
	}
	return b
}

func notice() []byte { return []byte{0x42, 0x42, 0x03, 0, 0, 0, 0x80} }

func TestNumbers(t *testing.T) {
	got := [...]int{Config, Rapid, Notice, Kinds, Unknown, Backup, Root, Designated, Second}
	if want := [...]int{0, 1, 2, 3, 0, 1, 2, 3, 256}; got != want {
		t.Errorf("the numbers are %v, want %v", got, want)
	}
}

func TestGroup(t *testing.T) {
	if got := mac.Text(Group()); got != "01:80:c2:00:00:00" {
		t.Errorf("Group() = %s", got)
	}
}

func TestReserved(t *testing.T) {
	for last := range 256 {
		if got := Reserved(api.Mac{1, 0x80, 0xC2, 0, 0, byte(last)}); got != (last < 16) {
			t.Errorf("Reserved with the last byte %d = %v", last, got)
		}
	}
	for at := range 5 {
		for bit := range 8 {
			m := api.Mac{1, 0x80, 0xC2, 0, 0, 3}
			m[at] ^= 1 << bit
			if Reserved(m) {
				t.Errorf("Reserved(%s)", mac.Text(m))
			}
		}
	}
	if Reserved(api.Mac{}) {
		t.Error("Reserved of noughts")
	}
}

func wantParsed(t *testing.T, name string, data []byte, want api.Bpdu) {
	t.Helper()
	if b, e := Parse(data); b != want || e != api.OK {
		t.Errorf("%s: Parse = %+v, %d, want %+v", name, b, e, want)
	}
}

func wantRefused(t *testing.T, name string, data []byte, want api.Errno) {
	t.Helper()
	if b, e := Parse(data); b != (api.Bpdu{}) || e != want {
		t.Errorf("%s: Parse = %+v, %d, want the error %d and none", name, b, e, want)
	}
}

func TestParse(t *testing.T) {
	wantParsed(t, "a Rapid one", bytesOf(2, 2, 0x2A), rapid())
	wantParsed(t, "a Config", bytesOf(0, 0, 0), config())
	wantParsed(t, "a Notice", notice(), api.Bpdu{Kind: Notice})
}

// TestParseOfFlags: each bit of the flags is one thing, and in a Config but the first and the last one nothing.
func TestParseOfFlags(t *testing.T) {
	for flags := range 256 {
		want := rapid()
		want.Change, want.Proposal, want.Role = flags&1 != 0, flags&2 != 0, flags>>2&3
		want.Learning, want.Forwarding = flags&16 != 0, flags&32 != 0
		want.Agreement, want.Ack = flags&64 != 0, flags&128 != 0
		wantParsed(t, "a Rapid one", bytesOf(2, 2, byte(flags)), want)
		want = config()
		want.Change, want.Ack = flags&1 != 0, flags&128 != 0
		wantParsed(t, "a Config", bytesOf(0, 0, byte(flags)), want)
	}
}

func TestParseOfVersions(t *testing.T) {
	for version := range 256 {
		wantParsed(t, "a Config", bytesOf(byte(version), 0, 0), config())
		told := notice()
		told[5] = byte(version)
		wantParsed(t, "a Notice", told, api.Bpdu{Kind: Notice})
		if version < 2 {
			wantRefused(t, "a Rapid one", bytesOf(byte(version), 2, 0x2A), api.ErrKind)
		} else {
			wantParsed(t, "a Rapid one", bytesOf(byte(version), 2, 0x2A), rapid())
		}
	}
}

func TestParseLeavesWhatIsBehind(t *testing.T) {
	wantParsed(t, "a Rapid one", append(bytesOf(2, 2, 0x2A), 9, 9, 9), rapid())
	wantParsed(t, "a Config", append(bytesOf(0, 0, 0), 9), config())
	wantParsed(t, "a Notice", append(notice(), bytesOf(2, 2, 0xFF)[7:]...), api.Bpdu{Kind: Notice})
	last := bytesOf(2, 2, 0x2A)
	last[38] = 255
	wantParsed(t, "another last byte", last, rapid())
}

func TestParseOfTooFew(t *testing.T) {
	for size := range 39 {
		wantRefused(t, "a Rapid one", bytesOf(2, 2, 0)[:size], api.ErrShort)
	}
	for size := range 38 {
		wantRefused(t, "a Config", bytesOf(0, 0, 0)[:size], api.ErrShort)
	}
	for size := range 7 {
		wantRefused(t, "a Notice", notice()[:size], api.ErrShort)
	}
	wantRefused(t, "none", nil, api.ErrShort)
	wantRefused(t, "six wrong bytes", make([]byte, 6), api.ErrShort)
}

func TestParseOfNoKind(t *testing.T) {
	for at := range 5 {
		for bit := range 8 {
			for _, data := range [][]byte{bytesOf(2, 2, 0), bytesOf(0, 0, 0), notice()} {
				data[at] ^= 1 << bit
				wantRefused(t, "another first byte", data, api.ErrKind)
				wantRefused(t, "another first byte, short", data[:7], api.ErrKind)
			}
		}
	}
	for kind := range 256 {
		if kind == 0 || kind == 2 || kind == 0x80 {
			continue
		}
		wantRefused(t, "another kind", bytesOf(2, byte(kind), 0), api.ErrKind)
		wantRefused(t, "another kind, short", bytesOf(2, byte(kind), 0)[:7], api.ErrKind)
	}
	wantRefused(t, "a Rapid one of the version 1, short", bytesOf(1, 2, 0)[:7], api.ErrKind)
}

func TestParseOfAges(t *testing.T) {
	for _, x := range []struct {
		age, most uint16
		want      api.Errno
	}{
		{0, 0, api.ErrForm},
		{0, 1, api.OK},
		{1, 1, api.ErrForm},
		{5119, 5120, api.OK},
		{5120, 5120, api.ErrForm},
		{5121, 5120, api.ErrForm},
		{0x00FF, 0x0100, api.OK},
		{65534, 65535, api.OK},
		{65535, 65535, api.ErrForm},
		{65535, 0, api.ErrForm},
	} {
		for _, data := range [][]byte{bytesOf(2, 2, 0), bytesOf(0, 0, 0)} {
			data[30], data[31] = byte(x.age>>8), byte(x.age)
			data[32], data[33] = byte(x.most>>8), byte(x.most)
			b, e := Parse(data)
			if e != x.want || e != api.OK && b != (api.Bpdu{}) || e == api.OK && (b.Age != int(x.age) || b.MaxAge != int(x.most)) {
				t.Errorf("Parse with the age %d of %d = %+v, %d, want %d", x.age, x.most, b, e, x.want)
			}
		}
	}
	aged := bytesOf(2, 2, 0)
	aged[32], aged[33] = 0, 0
	wantRefused(t, "too short, and no age", aged[:38], api.ErrShort)
}

func TestParseOfGreatNumbers(t *testing.T) {
	data := bytesOf(2, 2, 0xFF)
	for i := 8; i < 38; i++ {
		data[i] = 0xFF
	}
	data[31] = 0xFE
	wantParsed(t, "all ones", data, api.Bpdu{
		Kind: Rapid, Vector: api.Vector{Root: math.MaxUint64, Cost: 1<<32 - 1, Bridge: math.MaxUint64, Port: 65535},
		Change: true, Ack: true, Proposal: true, Agreement: true, Learning: true, Forwarding: true, Role: Designated,
		Age: 65534, MaxAge: 65535, Hello: 65535, Delay: 65535,
	})
}

// changes: what may be wrong with a message, one at a time.
func changes() map[string]func(b *api.Bpdu) {
	return map[string]func(b *api.Bpdu){
		"Root":       func(b *api.Bpdu) { b.Vector.Root = 1 },
		"Cost":       func(b *api.Bpdu) { b.Vector.Cost = 1 },
		"Bridge":     func(b *api.Bpdu) { b.Vector.Bridge = 1 },
		"Port":       func(b *api.Bpdu) { b.Vector.Port = 1 },
		"Change":     func(b *api.Bpdu) { b.Change = true },
		"Ack":        func(b *api.Bpdu) { b.Ack = true },
		"Proposal":   func(b *api.Bpdu) { b.Proposal = true },
		"Agreement":  func(b *api.Bpdu) { b.Agreement = true },
		"Learning":   func(b *api.Bpdu) { b.Learning = true },
		"Forwarding": func(b *api.Bpdu) { b.Forwarding = true },
		"Role":       func(b *api.Bpdu) { b.Role = 1 },
		"Age":        func(b *api.Bpdu) { b.Age = 1 },
		"MaxAge":     func(b *api.Bpdu) { b.MaxAge = 2 },
		"Hello":      func(b *api.Bpdu) { b.Hello = 1 },
		"Delay":      func(b *api.Bpdu) { b.Delay = 1 },
	}
}

// wantChecked: Check's answer, and that Build and Frame give the same error and nothing beside it.
func wantChecked(t *testing.T, name string, b api.Bpdu, want api.Errno) {
	t.Helper()
	if e := Check(b); e != want {
		t.Errorf("%s: Check = %d, want %d", name, e, want)
	}
	data, e := Build(b)
	if e != want || (e == api.OK) != (len(data) > 0) {
		t.Errorf("%s: Build = %x, %d, want %d", name, data, e, want)
	}
	frame, e := Frame(b, api.Mac{2})
	if e != want || (e == api.OK) != (len(frame) > 0) {
		t.Errorf("%s: Frame = %x, %d, want %d", name, frame, e, want)
	}
	// The message's own error is told ahead of the station's.
	frame, e = Frame(b, api.Mac{1})
	if want == api.OK {
		want = api.ErrForm
	}
	if e != want || len(frame) != 0 {
		t.Errorf("%s: Frame from a group = %x, %d, want %d and none", name, frame, e, want)
	}
}

func TestCheckOfKinds(t *testing.T) {
	for _, kind := range edgeInts {
		b := config()
		b.Kind = kind
		switch kind {
		case Config, Rapid:
			wantChecked(t, "a kind", b, api.OK)
		case Notice:
			wantChecked(t, "a Notice that tells more", b, api.ErrRange)
		default:
			wantChecked(t, "no kind", b, api.ErrKind)
			wantChecked(t, "no kind, nothing told", api.Bpdu{Kind: kind}, api.ErrKind)
			wantChecked(t, "no kind, a wrong number", api.Bpdu{Kind: kind, Role: -1}, api.ErrKind)
		}
	}
}

func TestCheckOfWhatIsTold(t *testing.T) {
	wantChecked(t, "a Notice", api.Bpdu{Kind: Notice}, api.OK)
	rapidAlone := map[string]bool{"Proposal": true, "Agreement": true, "Learning": true, "Forwarding": true, "Role": true}
	for name, change := range changes() {
		b := api.Bpdu{Kind: Notice}
		change(&b)
		wantChecked(t, "a Notice with "+name, b, api.ErrRange)
		b = api.Bpdu{Kind: Rapid, MaxAge: 2}
		change(&b)
		wantChecked(t, "a Rapid one with "+name, b, api.OK)
		b = api.Bpdu{Kind: Config, MaxAge: 2}
		change(&b)
		want := api.OK
		if rapidAlone[name] {
			want = api.ErrRange
		}
		wantChecked(t, "a Config with "+name, b, want)
	}
}

func TestCheckOfNumbers(t *testing.T) {
	for _, n := range edgeInts {
		fits := api.OK
		if n < 0 || n > 65535 {
			fits = api.ErrRange
		}
		for _, kind := range []int{Config, Rapid} {
			bare := api.Bpdu{Kind: kind, MaxAge: 1}
			b := bare
			b.Vector.Port = n
			wantChecked(t, "Port", b, fits)
			b = bare
			b.Hello = n
			wantChecked(t, "Hello", b, fits)
			b = bare
			b.Delay = n
			wantChecked(t, "Delay", b, fits)
			b = bare
			b.Age = n
			want := fits
			if n > 0 && n <= 65535 {
				want = api.ErrForm // the greatest age is 1
			}
			wantChecked(t, "Age", b, want)
			b = bare
			b.MaxAge = n
			want = fits
			if n == 0 {
				want = api.ErrForm
			}
			wantChecked(t, "MaxAge", b, want)
		}
		b := api.Bpdu{Kind: Rapid, MaxAge: 1, Role: n}
		want := api.OK
		if n < 0 || n > 3 {
			want = api.ErrRange
		}
		wantChecked(t, "Role", b, want)
		b.Kind = Config
		if n != 0 {
			want = api.ErrRange
		}
		wantChecked(t, "Role of a Config", b, want)
	}
	for _, kind := range []int{Config, Rapid} {
		b := api.Bpdu{Kind: kind, MaxAge: 1, Vector: api.Vector{Root: math.MaxUint64, Cost: 1<<32 - 1, Bridge: math.MaxUint64}}
		wantChecked(t, "the greatest cost", b, api.OK)
		b.Vector.Cost = 1 << 32
		wantChecked(t, "a cost above", b, api.ErrRange)
		b.Vector.Cost = math.MaxUint64
		wantChecked(t, "a cost far above", b, api.ErrRange)
		b.Age = 1
		wantChecked(t, "a cost above, and no age", b, api.ErrRange)
	}
	wantChecked(t, "the ages", api.Bpdu{Kind: Rapid, Age: 65534, MaxAge: 65535}, api.OK)
	wantChecked(t, "the same age", api.Bpdu{Kind: Rapid, Age: 65535, MaxAge: 65535}, api.ErrForm)
	wantChecked(t, "a Config that proposes, and no age", api.Bpdu{Proposal: true}, api.ErrRange)
	wantChecked(t, "nothing told", api.Bpdu{}, api.ErrForm)
}

func wantBuilt(t *testing.T, name string, b api.Bpdu, want []byte) {
	t.Helper()
	if data, e := Build(b); !bytes.Equal(data, want) || e != api.OK {
		t.Errorf("%s: Build = %x, %d, want %x", name, data, e, want)
	}
}

func TestBuild(t *testing.T) {
	wantBuilt(t, "a Rapid one", rapid(), bytesOf(2, 2, 0x2A))
	wantBuilt(t, "a Config", config(), bytesOf(0, 0, 0))
	wantBuilt(t, "a Notice", api.Bpdu{Kind: Notice}, notice())
	for flags := range 256 {
		b, _ := Parse(bytesOf(2, 2, byte(flags)))
		wantBuilt(t, "a Rapid one's flags", b, bytesOf(2, 2, byte(flags)))
		b, _ = Parse(bytesOf(0, 0, byte(flags)))
		wantBuilt(t, "a Config's flags", b, bytesOf(0, 0, byte(flags)&0x81))
	}
	for name, change := range changes() {
		b := api.Bpdu{Kind: Rapid, MaxAge: 2}
		change(&b)
		data, e := Build(b)
		if e != api.OK {
			t.Errorf("%s: Build: %d", name, e)
		}
		wantParsed(t, name, data, b)
	}
}

func TestFrame(t *testing.T) {
	src := api.Mac{2, 0, 0, 0, 0, 9}
	for _, x := range []struct {
		b    api.Bpdu
		data []byte
	}{
		{rapid(), bytesOf(2, 2, 0x2A)},
		{config(), bytesOf(0, 0, 0)},
		{api.Bpdu{Kind: Notice}, notice()},
	} {
		f, e := Frame(x.b, src)
		if e != api.OK || len(f) != 64 {
			t.Errorf("Frame of the kind %d = %x, %d", x.b.Kind, f, e)
		}
		want := api.Header{Dst: Group(), Src: src, Type: len(x.data), Llc: true}
		if h, data, e := mac.Parse(f); h != want || !bytes.Equal(data, x.data) || e != api.OK {
			t.Errorf("Frame of the kind %d holds %+v, %x, %d", x.b.Kind, h, data, e)
		}
	}
}

// TestNothingPanics: P1; a panic ends the test.
func TestNothingPanics(t *testing.T) {
	for _, a := range edgeInts {
		for _, b := range edgeInts {
			for _, kind := range edgeInts {
				for _, told := range []api.Bpdu{
					{Kind: kind, Age: a, MaxAge: b},
					{Kind: kind, MaxAge: 1, Role: a, Hello: b, Vector: api.Vector{Cost: uint64(b), Port: a}},
				} {
					Check(told)
					Build(told)
					Frame(told, api.Mac{byte(a)})
				}
			}
		}
	}
	seed := uint32(1)
	for range 20000 {
		data := bytesOf(2, []byte{0, 2, 0x80, byte(seed >> 8)}[seed>>30], 0)[:seed>>20%39]
		for i := 7; i < len(data); i++ {
			seed = seed*1664525 + 1013904223
			data[i] = byte(seed >> 24)
		}
		seed = seed*1664525 + 1013904223
		Parse(data)
		if len(data) > 0 {
			data[int(seed>>24)%len(data)] ^= byte(seed >> 16)
			Parse(data)
		}
	}
}

func scribble(b []byte) {
	b = b[:cap(b)]
	for i := range b {
		b[i] ^= 0xFF
	}
}

// TestAnswersAreNewMemory: rule 4.
func TestAnswersAreNewMemory(t *testing.T) {
	frame := func(b api.Bpdu) ([]byte, api.Errno) { return Frame(b, api.Mac{2}) }
	for name, call := range map[string]func(api.Bpdu) ([]byte, api.Errno){"Build": Build, "Frame": frame} {
		for _, b := range []api.Bpdu{rapid(), config(), {Kind: Notice}} {
			got, _ := call(b)
			twin, _ := call(b)
			want := bytes.Clone(got)
			scribble(twin)
			third, _ := call(b)
			if !bytes.Equal(got, want) || !bytes.Equal(third, want) {
				t.Errorf("%s of the kind %d: answers share memory", name, b.Kind)
			}
		}
	}
	group := Group()
	group[0] = 9
	if Group() != (api.Mac{1, 0x80, 0xC2}) {
		t.Error("Group() changed with its answer")
	}
}

func TestParseLeavesItsBytes(t *testing.T) {
	for _, in := range [][]byte{bytesOf(2, 2, 0x2A), bytesOf(0, 0, 0xFF), notice(), bytesOf(1, 2, 0)} {
		whole := append(in, 1, 2, 3)
		before := bytes.Clone(whole)
		Parse(whole[:len(in)])
		if !bytes.Equal(whole, before) {
			t.Errorf("Parse changed what was handed in: %x", whole)
		}
	}
}
