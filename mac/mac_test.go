package mac

import (
	"bytes"
	"hash/crc32"
	"math"
	"strconv"
	"testing"

	"bargate/api"
)

var (
	dst = api.Mac{0x01, 0x02, 0x03, 0x04, 0x05, 0x06}
	src = api.Mac{0x02, 0x11, 0x12, 0x13, 0x14, 0x15}
)

var edgeInts = []int{math.MinInt, -65536, -1, 0, 1, 6, 7, 8, 45, 46, 1499, 1500, 1501, 1518, 1535, 1536, 4093, 4094, 4095, 4096, TagType - 1, TagType, TagType + 1, 65535, 65536, math.MaxInt}

// sealed: pieces with their sum behind them, by the library's sum and not by the program's.
func sealed(pieces ...[]byte) []byte {
	b := bytes.Join(pieces, nil)
	sum := crc32.ChecksumIEEE(b)
	return append(b, byte(sum), byte(sum>>8), byte(sum>>16), byte(sum>>24))
}

// ramp: so many bytes, of which no two beside each other are the same.
func ramp(size int) []byte {
	b := make([]byte, size)
	for i := range b {
		b[i] = byte(i*7 + 1)
	}
	return b
}

func plain(kind int, payload []byte) []byte {
	return sealed(dst[:], src[:], []byte{byte(kind >> 8), byte(kind)}, payload)
}

func tagged(tag, kind int, payload []byte) []byte {
	return sealed(dst[:], src[:], []byte{0x81, 0, byte(tag >> 8), byte(tag), byte(kind >> 8), byte(kind)}, payload)
}

func wantParsed(t *testing.T, name string, b []byte, want api.Header, payload []byte) {
	t.Helper()
	want.Dst, want.Src = dst, src
	if h, data, e := Parse(b); h != want || !bytes.Equal(data, payload) || e != api.OK {
		t.Errorf("%s: Parse = %+v, %x, %d, want %+v, %x", name, h, data, e, want, payload)
	}
}

func wantRefused(t *testing.T, name string, b []byte, want api.Errno) {
	t.Helper()
	if h, data, e := Parse(b); h != (api.Header{}) || len(data) != 0 || e != want {
		t.Errorf("%s: Parse = %+v, %x, %d, want the error %d and nothing", name, h, data, e, want)
	}
	// Retag answers what Parse does, ahead of all that its own arguments have wrong.
	for _, vid := range []int{5, -1, 4095} {
		if c, e := Retag(b, true, 0, false, vid); len(c) != 0 || e != want {
			t.Errorf("%s: Retag to the VLAN %d = %x, %d, want the error %d and none", name, vid, c, e, want)
		}
	}
}

func TestBounds(t *testing.T) {
	got := [...]int{MinFrame, MaxPlain, MaxTagged, MaxData, LeastType, TagType, MaxVid}
	if want := [...]int{64, 1518, 1522, 1500, 1536, 0x8100, 4094}; got != want {
		t.Errorf("the bounds are %v, want %v", got, want)
	}
}

func TestGroup(t *testing.T) {
	for first := range 256 {
		if got := Group(api.Mac{byte(first), 255, 1, 3, 5, 7}); got != (first%2 == 1) {
			t.Errorf("Group with the first byte %d = %v", first, got)
		}
		if got := Group(api.Mac{byte(first)}); got != (first%2 == 1) {
			t.Errorf("Group with the first byte %d alone = %v", first, got)
		}
	}
}

func TestText(t *testing.T) {
	for _, x := range []struct {
		m    api.Mac
		want string
	}{
		{api.Mac{}, "00:00:00:00:00:00"},
		{api.Mac{1, 2, 3, 4, 5, 6}, "01:02:03:04:05:06"},
		{api.Mac{0xAB, 0xCD, 0xEF, 0x10, 0x9A, 0xF0}, "ab:cd:ef:10:9a:f0"},
		{api.Mac{255, 255, 255, 255, 255, 255}, "ff:ff:ff:ff:ff:ff"},
		{api.Mac{0x0F, 0xF0, 0x99, 0xA0, 0x0A, 0}, "0f:f0:99:a0:0a:00"},
	} {
		if got := Text(x.m); got != x.want {
			t.Errorf("Text(%x) = %q, want %q", x.m, got, x.want)
		}
	}
}

func TestParse(t *testing.T) {
	wantParsed(t, "plain", plain(0x0800, ramp(50)), api.Header{Type: 0x0800}, ramp(50))
	wantParsed(t, "the least type", plain(1536, ramp(46)), api.Header{Type: 1536}, ramp(46))
	wantParsed(t, "the greatest type", plain(65535, ramp(46)), api.Header{Type: 65535}, ramp(46))
	wantParsed(t, "noughts behind", plain(0x0800, make([]byte, 46)), api.Header{Type: 0x0800}, make([]byte, 46))
	wantParsed(t, "a tag", tagged(0xB064, 0x0800, ramp(42)), api.Header{Tagged: true, Pcp: 5, Dei: true, Vid: 100, Type: 0x0800}, ramp(42))
	wantParsed(t, "a tag of 0", tagged(0, 0x0800, ramp(42)), api.Header{Tagged: true, Type: 0x0800}, ramp(42))
	wantParsed(t, "the priority alone", tagged(0xE000, 0x0800, ramp(42)), api.Header{Tagged: true, Pcp: 7, Type: 0x0800}, ramp(42))
	wantParsed(t, "the drop alone", tagged(0x1000, 0x0800, ramp(42)), api.Header{Tagged: true, Dei: true, Type: 0x0800}, ramp(42))
	wantParsed(t, "the greatest VLAN", tagged(0x0FFE, 0x0800, ramp(42)), api.Header{Tagged: true, Vid: 4094, Type: 0x0800}, ramp(42))
	wantParsed(t, "a tag in a tag", tagged(5, 0x8100, ramp(42)), api.Header{Tagged: true, Vid: 5, Type: 0x8100}, ramp(42))
}

func TestParseOfALength(t *testing.T) {
	for _, size := range []int{0, 1, 3, 45, 46} {
		wantParsed(t, "plain", plain(size, ramp(46)), api.Header{Type: size, Llc: true}, ramp(46)[:size])
	}
	for _, size := range []int{0, 1, 41, 42} {
		wantParsed(t, "tagged", tagged(7, size, ramp(42)), api.Header{Tagged: true, Vid: 7, Type: size, Llc: true}, ramp(42)[:size])
	}
	wantParsed(t, "longer than it says", plain(3, ramp(1500)), api.Header{Type: 3, Llc: true}, ramp(3))
	wantParsed(t, "the longest", plain(1500, ramp(1500)), api.Header{Type: 1500, Llc: true}, ramp(1500))
	wantParsed(t, "the longest with a tag", tagged(1, 1500, ramp(1500)), api.Header{Tagged: true, Vid: 1, Type: 1500, Llc: true}, ramp(1500))
	wantRefused(t, "one byte too few", plain(47, ramp(46)), api.ErrForm)
	wantRefused(t, "one byte too few with a tag", tagged(0, 43, ramp(42)), api.ErrForm)
	wantRefused(t, "the sum is no payload", plain(50, ramp(46)), api.ErrForm)
	wantRefused(t, "far too few", plain(1500, ramp(46)), api.ErrForm)
	for kind := 1501; kind <= 1535; kind++ {
		wantRefused(t, "neither type nor length: "+strconv.Itoa(kind), plain(kind, ramp(1500)), api.ErrForm)
		wantRefused(t, "neither, with a tag: "+strconv.Itoa(kind), tagged(1, kind, ramp(1500)), api.ErrForm)
	}
}

func TestParseOfAllSizes(t *testing.T) {
	for size := range 1600 {
		b := sealed(dst[:], src[:], []byte{8, 0}, ramp(size))
		want := api.OK
		if len(b) < 64 {
			want = api.ErrShort
		} else if len(b) > 1518 {
			want = api.ErrLong
		}
		if _, data, e := Parse(b); e != want || e == api.OK && !bytes.Equal(data, ramp(size)) {
			t.Errorf("Parse of %d bytes: %d, want %d", len(b), e, want)
		}
		b = tagged(1, 0x0800, ramp(size))
		want = api.OK
		if len(b) < 64 {
			want = api.ErrShort
		} else if len(b) > 1522 {
			want = api.ErrLong
		}
		if _, data, e := Parse(b); e != want || e == api.OK && !bytes.Equal(data, ramp(size)) {
			t.Errorf("Parse of %d bytes with a tag: %d, want %d", len(b), e, want)
		}
	}
}

func TestParseErrors(t *testing.T) {
	fromGroup := api.Mac{3}
	good := plain(0x0800, ramp(46))
	wrong := bytes.Clone(good)
	wrong[20] ^= 4
	wantRefused(t, "none", nil, api.ErrShort)
	wantRefused(t, "63 bytes", make([]byte, 63), api.ErrShort)
	wantRefused(t, "a whole frame of 63 bytes", plain(0x0800, ramp(45)), api.ErrShort)
	wantRefused(t, "spare room", good[:63], api.ErrShort)
	wantRefused(t, "1523 bytes", make([]byte, 1523), api.ErrLong)
	wantRefused(t, "very long", make([]byte, 100000), api.ErrLong)
	wantRefused(t, "a wrong bit", wrong, api.ErrSum)
	wantRefused(t, "a wrong sum", make([]byte, 64), api.ErrSum)
	wantRefused(t, "from a group", sealed(dst[:], fromGroup[:], []byte{8, 0}, ramp(46)), api.ErrForm)
	wantRefused(t, "from a group, with a tag", sealed(dst[:], fromGroup[:], []byte{0x81, 0, 0, 1, 8, 0}, ramp(46)), api.ErrForm)
	wantRefused(t, "the VLAN 4095", tagged(0x0FFF, 0x0800, ramp(42)), api.ErrForm)
	wantRefused(t, "the VLAN 4095, a priority", tagged(0xFFFF, 0x0800, ramp(42)), api.ErrForm)
	// Rule 1: the first that is named.
	wantRefused(t, "long, a wrong sum", make([]byte, 1522), api.ErrSum)
	wantRefused(t, "long without a tag, from a group", sealed(dst[:], fromGroup[:], []byte{8, 0}, ramp(1501)), api.ErrLong)
	wantRefused(t, "long without a tag, no type", plain(1501, ramp(1504)), api.ErrLong)
	wantRefused(t, "from a group, a wrong sum", append(sealed(dst[:], fromGroup[:], []byte{8, 0}, ramp(46))[:63], 0), api.ErrSum)
}

func TestCheck(t *testing.T) {
	group := api.Mac{1}
	for _, x := range []struct {
		name string
		h    api.Header
		data int
		want api.Errno
	}{
		{"plain", api.Header{Type: 1536}, 0, api.OK},
		{"to a group", api.Header{Dst: group, Type: 1536}, 0, api.OK},
		{"the most", api.Header{Type: 65535}, 1500, api.OK},
		{"too long", api.Header{Type: 65535}, 1501, api.ErrLong},
		{"below 0", api.Header{Type: 65535}, -1, api.ErrLong},
		{"a tag", api.Header{Tagged: true, Pcp: 7, Dei: true, Vid: 4094, Type: 1536}, 1500, api.OK},
		{"a tag of 0", api.Header{Tagged: true, Type: 1536}, 0, api.OK},
		{"Pcp 8", api.Header{Tagged: true, Pcp: 8, Type: 1536}, 0, api.ErrRange},
		{"Pcp -1", api.Header{Tagged: true, Pcp: -1, Type: 1536}, 0, api.ErrRange},
		{"Vid 4095", api.Header{Tagged: true, Vid: 4095, Type: 1536}, 0, api.ErrRange},
		{"Vid -1", api.Header{Tagged: true, Vid: -1, Type: 1536}, 0, api.ErrRange},
		{"Pcp without a tag", api.Header{Pcp: 1, Type: 1536}, 0, api.ErrRange},
		{"Vid without a tag", api.Header{Vid: 1, Type: 1536}, 0, api.ErrRange},
		{"Dei without a tag", api.Header{Dei: true, Type: 1536}, 0, api.ErrRange},
		{"from a group", api.Header{Src: group, Type: 1536}, 0, api.ErrForm},
		{"type 1535", api.Header{Type: 1535}, 0, api.ErrForm},
		{"type 0", api.Header{}, 0, api.ErrForm},
		{"type -1", api.Header{Type: -1}, 0, api.ErrForm},
		{"type 65536", api.Header{Type: 65536}, 0, api.ErrForm},
		{"type 1535, a tag", api.Header{Tagged: true, Type: 1535}, 0, api.ErrForm},
		{"type 65536, a tag", api.Header{Tagged: true, Type: 65536}, 0, api.ErrForm},
		{"a tag's type", api.Header{Type: 0x8100}, 0, api.ErrForm},
		{"a tag's type, a tag", api.Header{Tagged: true, Type: 0x8100}, 0, api.OK},
		{"beside a tag's type", api.Header{Type: 0x8101}, 0, api.OK},
		{"a length", api.Header{Type: 3, Llc: true}, 3, api.OK},
		{"a length of 0", api.Header{Llc: true}, 0, api.OK},
		{"a length of 1500, a tag", api.Header{Tagged: true, Type: 1500, Llc: true}, 1500, api.OK},
		{"another length", api.Header{Type: 3, Llc: true}, 4, api.ErrForm},
		{"another length, a type", api.Header{Type: 1536, Llc: true}, 4, api.ErrForm},
		{"a length from a group", api.Header{Src: group, Type: 3, Llc: true}, 3, api.ErrForm},
		{"a length above", api.Header{Type: 1501, Llc: true}, 1501, api.ErrLong},
		{"a length below 0", api.Header{Type: -1, Llc: true}, -1, api.ErrLong},
		{"a length with a Vid", api.Header{Vid: 1, Type: 3, Llc: true}, 3, api.ErrRange},
		{"too long, else wrong too", api.Header{Src: group, Vid: 1}, 1501, api.ErrLong},
		{"Pcp 8 from a group", api.Header{Src: group, Tagged: true, Pcp: 8}, 0, api.ErrRange},
	} {
		if e := Check(x.h, x.data); e != x.want {
			t.Errorf("%s: Check = %d, want %d", x.name, e, x.want)
		}
	}
}

func TestBuild(t *testing.T) {
	for _, x := range []struct {
		name string
		h    api.Header
		data []byte
		want []byte
	}{
		{"plain", api.Header{Type: 0x0800}, ramp(46), plain(0x0800, ramp(46))},
		{"plain, longer", api.Header{Type: 0x86DD}, ramp(47), plain(0x86DD, ramp(47))},
		{"plain, short", api.Header{Type: 0x0800}, ramp(45), plain(0x0800, append(ramp(45), 0))},
		{"plain, none", api.Header{Type: 0x0800}, nil, plain(0x0800, make([]byte, 46))},
		{"plain, the most", api.Header{Type: 0x0800}, ramp(1500), plain(0x0800, ramp(1500))},
		{"a tag", api.Header{Tagged: true, Pcp: 5, Dei: true, Vid: 100, Type: 0x0800}, ramp(42), tagged(0xB064, 0x0800, ramp(42))},
		{"a tag, short", api.Header{Tagged: true, Pcp: 2, Vid: 4094, Type: 0x0800}, ramp(5), tagged(0x4FFE, 0x0800, append(ramp(5), make([]byte, 37)...))},
		{"a tag of 0", api.Header{Tagged: true, Type: 0x8100}, ramp(43), tagged(0, 0x8100, ramp(43))},
		{"a tag, the most", api.Header{Tagged: true, Vid: 1, Type: 0x0800}, ramp(1500), tagged(1, 0x0800, ramp(1500))},
		{"a length", api.Header{Type: 3, Llc: true}, ramp(3), plain(3, append(ramp(3), make([]byte, 43)...))},
		{"a length, a tag", api.Header{Tagged: true, Dei: true, Type: 1500, Llc: true}, ramp(1500), tagged(0x1000, 1500, ramp(1500))},
	} {
		x.h.Dst, x.h.Src = dst, src
		if b, e := Build(x.h, x.data); !bytes.Equal(b, x.want) || e != api.OK {
			t.Errorf("%s: Build = %x, %d, want %x", x.name, b, e, x.want)
		}
	}
}

func TestBuildOfTheExample(t *testing.T) {
	b, e := Build(api.Header{Tagged: true, Vid: 1, Type: 0x0800}, []byte("hello"))
	if len(b) != 64 || e != api.OK {
		t.Errorf("five bytes with a tag have %d bytes, %d, want 64", len(b), e)
	}
}

func TestBuildErrors(t *testing.T) {
	for _, x := range []struct {
		h    api.Header
		size int
		want api.Errno
	}{
		{api.Header{Type: 0x0800}, 1501, api.ErrLong},
		{api.Header{Type: 0x0800, Vid: 1}, 1501, api.ErrLong},
		{api.Header{Type: 0x0800, Vid: 1}, 46, api.ErrRange},
		{api.Header{Type: 0x0800, Src: api.Mac{1}}, 46, api.ErrForm},
		{api.Header{Type: 45, Llc: true}, 46, api.ErrForm},
		{api.Header{Type: 46}, 46, api.ErrForm},
		{api.Header{Type: TagType}, 46, api.ErrForm},
	} {
		if b, e := Build(x.h, ramp(x.size)); len(b) != 0 || e != x.want {
			t.Errorf("Build(%+v, %d bytes) = %x, %d, want the error %d and none", x.h, x.size, b, e, x.want)
		}
	}
}

func TestParseOfWhatIsBuilt(t *testing.T) {
	for _, size := range []int{0, 1, 41, 42, 43, 45, 46, 47, 1499, 1500} {
		for _, h := range []api.Header{
			{Type: 0x0800},
			{Type: size, Llc: true},
			{Tagged: true, Type: 0x0800},
			{Tagged: true, Pcp: 3, Dei: true, Vid: 4094, Type: TagType},
			{Tagged: true, Pcp: 7, Vid: 1, Type: size, Llc: true},
		} {
			h.Dst, h.Src = dst, src
			b, e := Build(h, ramp(size))
			if e != api.OK {
				t.Errorf("Build(%+v, %d bytes): %d", h, size, e)
			}
			g, data, e := Parse(b)
			if g != h || e != api.OK || !bytes.Equal(data[:size], ramp(size)) || h.Llc && len(data) != size {
				t.Errorf("Parse of Build(%+v, %d bytes) = %+v, %x, %d", h, size, g, data, e)
			}
			if behind := bytes.Trim(data[size:], "\x00"); len(behind) > 0 {
				t.Errorf("Build(%+v, %d bytes) has %x behind the payload", h, size, data[size:])
			}
		}
	}
}

func TestRetag(t *testing.T) {
	for _, x := range []struct {
		name   string
		in     []byte
		tagged bool
		pcp    int
		dei    bool
		vid    int
		want   []byte
	}{
		{"a tag more", plain(0x0800, ramp(46)), true, 5, true, 100, tagged(0xB064, 0x0800, ramp(46))},
		{"a tag of 0", plain(0x0800, ramp(46)), true, 0, false, 0, tagged(0, 0x0800, ramp(46))},
		{"the greatest tag", plain(0x0800, ramp(46)), true, 7, false, 4094, tagged(0xEFFE, 0x0800, ramp(46))},
		{"none stays", plain(0x0800, ramp(46)), false, 0, false, 0, plain(0x0800, ramp(46))},
		{"another tag", tagged(0xB064, 0x0800, ramp(60)), true, 1, false, 7, tagged(0x2007, 0x0800, ramp(60))},
		{"the same tag", tagged(0xB064, 0x0800, ramp(42)), true, 5, true, 100, tagged(0xB064, 0x0800, ramp(42))},
		{"no tag any more", tagged(0xB064, 0x0800, ramp(46)), false, 0, false, 0, plain(0x0800, ramp(46))},
		{"no tag, three noughts", tagged(0xB064, 0x0800, ramp(43)), false, 0, false, 0, plain(0x0800, append(ramp(43), 0, 0, 0))},
		{"no tag, four noughts", tagged(0xB064, 0x0800, ramp(42)), false, 0, false, 0, plain(0x0800, append(ramp(42), 0, 0, 0, 0))},
		{"a length keeps what is behind", plain(3, ramp(46)), true, 0, false, 1, tagged(1, 3, ramp(46))},
		{"a length without a tag", tagged(1, 3, ramp(42)), false, 0, false, 0, plain(3, append(ramp(42), 0, 0, 0, 0))},
		{"a tag in a tag", tagged(1, 0x8100, ramp(42)), true, 0, false, 2, tagged(2, 0x8100, ramp(42))},
		{"the longest", plain(0x0800, ramp(1500)), true, 0, false, 1, tagged(1, 0x0800, ramp(1500))},
		{"the longest without", tagged(1, 0x0800, ramp(1500)), false, 0, false, 0, plain(0x0800, ramp(1500))},
		{"the longest with another", tagged(1, 0x0800, ramp(1500)), true, 0, false, 2, tagged(2, 0x0800, ramp(1500))},
	} {
		if b, e := Retag(x.in, x.tagged, x.pcp, x.dei, x.vid); !bytes.Equal(b, x.want) || e != api.OK {
			t.Errorf("%s: Retag = %x, %d, want %x", x.name, b, e, x.want)
		}
	}
}

func TestRetagErrors(t *testing.T) {
	for _, x := range []struct {
		name   string
		in     []byte
		tagged bool
		pcp    int
		dei    bool
		vid    int
		want   api.Errno
	}{
		{"Pcp 8", plain(0x0800, ramp(46)), true, 8, false, 1, api.ErrRange},
		{"Pcp -1", plain(0x0800, ramp(46)), true, -1, false, 1, api.ErrRange},
		{"Vid 4095", plain(0x0800, ramp(46)), true, 0, false, 4095, api.ErrRange},
		{"Vid -1", plain(0x0800, ramp(46)), true, 0, false, -1, api.ErrRange},
		{"Pcp without a tag", tagged(1, 0x0800, ramp(46)), false, 1, false, 0, api.ErrRange},
		{"Dei without a tag", tagged(1, 0x0800, ramp(46)), false, 0, true, 0, api.ErrRange},
		{"Vid without a tag", tagged(1, 0x0800, ramp(46)), false, 0, false, 1, api.ErrRange},
		{"a tag in a tag", tagged(1, 0x8100, ramp(46)), false, 0, false, 0, api.ErrForm},
		{"a tag in a tag, Vid without a tag", tagged(1, 0x8100, ramp(46)), false, 0, false, 1, api.ErrRange},
	} {
		if b, e := Retag(x.in, x.tagged, x.pcp, x.dei, x.vid); len(b) != 0 || e != x.want {
			t.Errorf("%s: Retag = %x, %d, want the error %d and none", x.name, b, e, x.want)
		}
	}
}

// TestRetagOfAllSizes: whatever Parse takes it takes again with another tag: no size comes to ErrLong.
func TestRetagOfAllSizes(t *testing.T) {
	for size := 42; size <= 1500; size++ {
		for _, b := range [][]byte{plain(0x0800, ramp(size)), tagged(9, 0x0800, ramp(size))} {
			if len(b) < MinFrame {
				continue
			}
			with, e := Retag(b, true, 3, false, 5)
			if h, data, f := Parse(with); e != api.OK || f != api.OK || h.Vid != 5 || !bytes.Equal(data, ramp(size)) {
				t.Errorf("%d bytes of payload with a tag: %+v, %d, %d", size, h, e, f)
			}
			without, e := Retag(b, false, 0, false, 0)
			if h, data, f := Parse(without); e != api.OK || f != api.OK || h.Tagged || !bytes.Equal(data[:size], ramp(size)) {
				t.Errorf("%d bytes of payload without a tag: %+v, %d, %d", size, h, e, f)
			}
		}
	}
}

// TestNothingPanics: P1; a panic ends the test.
func TestNothingPanics(t *testing.T) {
	frames := [][]byte{nil, {}, make([]byte, 13), make([]byte, 64), make([]byte, 1522), plain(0x0800, ramp(46)), tagged(1, 0x8100, ramp(46)), plain(3, ramp(46))}
	for _, a := range edgeInts {
		for _, b := range edgeInts {
			for _, flag := range []bool{false, true} {
				for _, llc := range []bool{false, true} {
					Check(api.Header{Tagged: flag, Pcp: a, Vid: b, Type: 1536, Llc: llc}, 46)
					Check(api.Header{Tagged: flag, Type: a, Llc: llc}, b)
					Build(api.Header{Tagged: flag, Pcp: a, Vid: b, Type: 1536, Llc: llc}, ramp(46))
					Build(api.Header{Tagged: flag, Type: a, Llc: llc}, nil)
				}
				for _, f := range frames {
					Retag(f, flag, a, !flag, b)
				}
			}
		}
	}
	// Any bytes, with a right sum, so that what stands behind it is read.
	seed := uint32(1)
	for range 20000 {
		b := make([]byte, 60+seed>>29)
		for i := range b {
			seed = seed*1664525 + 1013904223
			b[i] = byte(seed >> 24)
		}
		if seed&1 == 0 {
			b[12], b[13] = 0x81, 0
		}
		Parse(sealed(b))
		Retag(sealed(b), seed&2 == 0, 0, false, 0)
	}
}

func scribble(b []byte) {
	b = b[:cap(b)]
	for i := range b {
		b[i] ^= 0xFF
	}
}

// TestAnswersAreNewMemory: rule 4: what is written over an answer, its spare room too, isn't seen in what was handed in, nor the other way.
func TestAnswersAreNewMemory(t *testing.T) {
	parse := func(b []byte) []byte { _, data, _ := Parse(b); return data }
	retag := func(tagged bool) func([]byte) []byte {
		return func(b []byte) []byte { again, _ := Retag(b, tagged, 0, false, 0); return again }
	}
	build := func(llc bool) func([]byte) []byte {
		return func(b []byte) []byte {
			h := api.Header{Type: 0x0800}
			if llc {
				h = api.Header{Type: len(b), Llc: true}
			}
			out, _ := Build(h, b)
			return out
		}
	}
	for name, x := range map[string]struct {
		call func([]byte) []byte
		in   []byte
	}{
		"Parse":                {parse, plain(0x0800, ramp(46))},
		"Parse of a length":    {parse, plain(3, ramp(46))},
		"Parse of a length 0":  {parse, tagged(1, 0, ramp(46))},
		"Build":                {build(false), ramp(46)},
		"Build of few":         {build(true), ramp(3)},
		"Build of many":        {build(true), ramp(1500)},
		"Retag, as it was":     {retag(false), plain(0x0800, ramp(46))},
		"Retag without":        {retag(false), tagged(5, 0x0800, ramp(42))},
		"Retag with":           {retag(true), plain(0x0800, ramp(46))},
		"Retag, the same ones": {retag(true), tagged(0, 0x0800, ramp(46))},
	} {
		whole := append(bytes.Clone(x.in), ramp(80)...)
		before := bytes.Clone(whole)
		b := whole[:len(x.in)]
		got, twin := x.call(b), x.call(b)
		want := bytes.Clone(got)
		if !bytes.Equal(whole, before) {
			t.Errorf("%s changed what was handed in", name)
		}
		scribble(twin)
		if !bytes.Equal(whole, before) || !bytes.Equal(got, want) {
			t.Errorf("%s: an answer shares memory with its argument or another answer", name)
		}
		scribble(whole)
		if !bytes.Equal(got, want) {
			t.Errorf("%s: the answer changed with the argument", name)
		}
	}
}
