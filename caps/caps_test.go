package caps

import (
	"encoding/binary"
	"math"
	"math/rand"
	"strings"
	"testing"
	"unsafe"

	"gripsack/api"
)

const maxId = 1<<31 - 1

func rep(s string, n int) string { return strings.Repeat(s, n) }

func zeros(n int) string { return rep("\x00", n) }

// two and three are the encodings of Ver 2 and of Ver 3 without anything.
var (
	two   = "\x00\x00\x00\x02" + zeros(16)
	three = "\x00\x00\x00\x03" + zeros(20)
)

// wantMay is what May answers, by the words of the chapter.
func wantMay(c api.Caps) bool {
	if c.Ver == 0 {
		return c.Permitted == 0 && c.Inheritable == 0 && !c.Effective && c.Root == 0
	}
	return c.Ver == 2 && c.Root == 0 || c.Ver == 3 && c.Root >= 0 && c.Root <= maxId
}

// wantPut is what Put answers, by the words of the chapter.
func wantPut(c api.Caps) string {
	if !wantMay(c) || c.Ver == 0 {
		return ""
	}
	first := c.Ver * 16777216
	if c.Effective {
		first++
	}
	l := []uint64{uint64(first), c.Permitted % 4294967296, c.Inheritable % 4294967296, c.Permitted / 4294967296, c.Inheritable / 4294967296}
	if c.Ver == 3 {
		l = append(l, uint64(c.Root))
	}
	var b []byte
	for _, n := range l {
		b = binary.LittleEndian.AppendUint32(b, uint32(n))
	}
	return string(b)
}

// wantGet is what Get answers: each byte is looked at, in the two forms that
// there are.
func wantGet(s string) (api.Caps, bool) {
	if s == "" {
		return api.Caps{}, true
	}
	isTwo := len(s) == 20 && s[3] == 2
	isThree := len(s) == 24 && s[3] == 3 && s[23] < 128
	if !isTwo && !isThree || s[0] > 1 || s[1] != 0 || s[2] != 0 {
		return api.Caps{}, false
	}
	at := func(i int) uint64 { return uint64(binary.LittleEndian.Uint32([]byte(s[i : i+4]))) }
	c := api.Caps{Ver: 2, Permitted: at(4) + at(12)*4294967296, Inheritable: at(8) + at(16)*4294967296, Effective: s[0] == 1}
	if isThree {
		c.Ver, c.Root = 3, int(at(20))
	}
	return c, true
}

// good tells a fault if c is not valid, has another encoding than s, or is not
// what s says.
func good(t *testing.T, c api.Caps, s string) {
	t.Helper()
	if !May(c) {
		t.Errorf("11.1: May(%+v) = false", c)
	}
	if got := Put(c); got != s {
		t.Errorf("11.1: Put(%+v) = %q; want %q", c, got, s)
	}
	if got, ok := Get(s); got != c || !ok {
		t.Errorf("11.1: Get(%q) = %+v, %v; want %+v", s, got, ok, c)
	}
	if got, ok := Get(Put(c)); got != c || !ok {
		t.Errorf("11.2: Get(Put(%+v)) = %+v, %v", c, got, ok)
	}
}

// wrong tells a fault if c is valid, or has an encoding.
func wrong(t *testing.T, c api.Caps) {
	t.Helper()
	if May(c) {
		t.Errorf("11.1: May(%+v) = true", c)
	}
	if got := Put(c); got != "" {
		t.Errorf("11.1: Put(%+v) = %q; want the empty string", c, got)
	}
}

// fails tells a fault if Get takes s, or answers anything beside false.
func fails(t *testing.T, s string) {
	t.Helper()
	if got, ok := Get(s); got != (api.Caps{}) || ok {
		t.Errorf("11.1: Get(%.60q of %d bytes) = %+v, %v; want false", s, len(s), got, ok)
	}
}

// agrees tells a fault if May, Put or Get of c answers otherwise than by the
// words.
func agrees(t *testing.T, c api.Caps) bool {
	t.Helper()
	valid := wantMay(c)
	if valid {
		good(t, c, wantPut(c))
	} else {
		wrong(t, c)
	}
	return valid
}

// getAgrees tells a fault if Get answers otherwise than by the words.
func getAgrees(t *testing.T, s string) bool {
	t.Helper()
	c, ok := wantGet(s)
	if !ok {
		fails(t, s)
	} else {
		good(t, c, s)
	}
	return ok
}

// some are valid capabilities of the usual kinds.
func some() []api.Caps {
	var l []api.Caps
	for _, e := range []bool{false, true} {
		for _, n := range [][2]uint64{
			{0, 0}, {1, 0}, {0, 1}, {1, 1}, {1024, 0}, {0, 8192}, {1 << 21, 1 << 22}, {5, 3}, {1 << 31, 1 << 32}, {1 << 32, 1 << 31},
			{0x000001ffffffffff, 0}, {0x0807060504030201, 0x1817161514131211}, {0xf8f7f6f5f4f3f2f1, 0x8182838485868788},
			{math.MaxUint32, 0}, {0, math.MaxUint32}, {math.MaxUint64 - math.MaxUint32, 0}, {math.MaxUint64, 0}, {0, math.MaxUint64}, {math.MaxUint64, math.MaxUint64},
		} {
			l = append(l, api.Caps{Ver: 2, Permitted: n[0], Inheritable: n[1], Effective: e})
			for _, root := range []int{0, 1, 1000, 0x01020304, 0x7f008001, maxId - 1, maxId} {
				l = append(l, api.Caps{Ver: 3, Permitted: n[0], Inheritable: n[1], Effective: e, Root: root})
			}
		}
	}
	return l
}

func TestExamples(t *testing.T) {
	wrong(t, api.Caps{Permitted: 1})
	s := zeros(3) + "\x02" + zeros(16)
	good(t, api.Caps{Ver: 2}, s)
	fails(t, s[:19])
}

func TestUsual(t *testing.T) {
	for _, c := range some() {
		if !agrees(t, c) {
			t.Errorf("the words say that %+v is not valid", c)
		}
	}
}

// The encodings, written out.
func TestPut(t *testing.T) {
	for _, c := range []struct {
		c api.Caps
		s string
	}{
		{api.Caps{}, ""},
		{api.Caps{Ver: 2}, two},
		{api.Caps{Ver: 3}, three},
		{api.Caps{Ver: 2, Effective: true}, "\x01" + two[1:]},
		{api.Caps{Ver: 3, Effective: true}, "\x01" + three[1:]},
		{api.Caps{Ver: 2, Permitted: 1}, "\x00\x00\x00\x02\x01" + zeros(15)},
		{api.Caps{Ver: 2, Inheritable: 1}, "\x00\x00\x00\x02" + zeros(4) + "\x01" + zeros(11)},
		{api.Caps{Ver: 2, Permitted: 1 << 32}, "\x00\x00\x00\x02" + zeros(8) + "\x01" + zeros(7)},
		{api.Caps{Ver: 2, Inheritable: 1 << 32}, "\x00\x00\x00\x02" + zeros(12) + "\x01" + zeros(3)},
		{api.Caps{Ver: 2, Permitted: 1 << 31}, "\x00\x00\x00\x02\x00\x00\x00\x80" + zeros(12)},
		{api.Caps{Ver: 2, Inheritable: 1 << 31}, "\x00\x00\x00\x02" + zeros(7) + "\x80" + zeros(8)},
		{api.Caps{Ver: 2, Permitted: 1 << 63}, "\x00\x00\x00\x02" + zeros(11) + "\x80" + zeros(4)},
		{api.Caps{Ver: 2, Inheritable: 1 << 63}, "\x00\x00\x00\x02" + zeros(15) + "\x80"},
		{api.Caps{Ver: 2, Permitted: 0x0807060504030201, Inheritable: 0x1817161514131211}, "\x00\x00\x00\x02\x01\x02\x03\x04\x11\x12\x13\x14\x05\x06\x07\x08\x15\x16\x17\x18"},
		{api.Caps{Ver: 3, Permitted: 0xf8f7f6f5f4f3f2f1, Inheritable: 0x8182838485868788, Effective: true, Root: 0x71727374}, "\x01\x00\x00\x03\xf1\xf2\xf3\xf4\x88\x87\x86\x85\xf5\xf6\xf7\xf8\x84\x83\x82\x81\x74\x73\x72\x71"},
		{api.Caps{Ver: 2, Permitted: math.MaxUint64}, "\x00\x00\x00\x02" + rep("\xff", 4) + zeros(4) + rep("\xff", 4) + zeros(4)},
		{api.Caps{Ver: 2, Inheritable: math.MaxUint64, Effective: true}, "\x01\x00\x00\x02" + zeros(4) + rep("\xff", 4) + zeros(4) + rep("\xff", 4)},
		{api.Caps{Ver: 2, Permitted: math.MaxUint64, Inheritable: math.MaxUint64, Effective: true}, "\x01\x00\x00\x02" + rep("\xff", 16)},
		{api.Caps{Ver: 3, Permitted: math.MaxUint64, Inheritable: math.MaxUint64, Effective: true, Root: maxId}, "\x01\x00\x00\x03" + rep("\xff", 19) + "\x7f"},
		{api.Caps{Ver: 3, Root: 1}, three[:20] + "\x01\x00\x00\x00"},
		{api.Caps{Ver: 3, Root: 256}, three[:20] + "\x00\x01\x00\x00"},
		{api.Caps{Ver: 3, Root: 1 << 30}, three[:20] + "\x00\x00\x00\x40"},
		{api.Caps{Ver: 3, Root: maxId}, three[:20] + "\xff\xff\xff\x7f"},
	} {
		good(t, c.c, c.s)
		if got := wantPut(c.c); got != c.s {
			t.Errorf("the words give %q for %+v; the table %q", got, c.c, c.s)
		}
		if got, ok := wantGet(c.s); got != c.c || !ok {
			t.Errorf("the words give %+v, %v for %q; the table %+v", got, ok, c.s, c.c)
		}
	}
}

// placeOf returns the byte of the encoding in which a bit of Permitted stands;
// that of Inheritable stands four bytes further on.
func placeOf(bit int) int {
	if bit < 32 {
		return 4 + bit/8
	}
	return 12 + (bit-32)/8
}

// withBit returns s with one more bit in the byte at place.
func withBit(s string, place, bit int) string {
	b := []byte(s)
	b[place] |= 1 << (bit % 8)
	return string(b)
}

func TestSingleBits(t *testing.T) {
	for bit := range 64 {
		n, p := uint64(1)<<bit, placeOf(bit)
		for _, e := range []bool{false, true} {
			for _, empty := range []string{two, three} {
				c := api.Caps{Ver: int(empty[3]), Effective: e}
				if e {
					empty = "\x01" + empty[1:]
				}
				permitted, inheritable, both := c, c, c
				permitted.Permitted, both.Permitted = n, n
				inheritable.Inheritable, both.Inheritable = n, n
				good(t, permitted, withBit(empty, p, bit))
				good(t, inheritable, withBit(empty, p+4, bit))
				good(t, both, withBit(withBit(empty, p, bit), p+4, bit))
				// All bits but this one.
				agrees(t, api.Caps{Ver: c.Ver, Permitted: ^n, Inheritable: math.MaxUint64, Effective: e})
				agrees(t, api.Caps{Ver: c.Ver, Permitted: math.MaxUint64, Inheritable: ^n, Effective: e})
				agrees(t, api.Caps{Ver: c.Ver, Permitted: n, Inheritable: ^n, Effective: e})
			}
			wrong(t, api.Caps{Permitted: n, Effective: e})
			wrong(t, api.Caps{Inheritable: n, Effective: e})
			wrong(t, api.Caps{Ver: 1, Permitted: n, Inheritable: n, Effective: e})
		}
	}
}

func TestRoot(t *testing.T) {
	roots := []int{math.MinInt, math.MinInt + 1, -1 << 32, -1<<32 + 1, -1<<31 - 1, -1 << 31, -2, -1, 0, 1, 2, 255, 256, 65535, 65536, maxId - 1, maxId, maxId + 1, maxId + 2, 1<<32 - 1, 1 << 32, 1<<32 + 1, 1 << 62, math.MaxInt - 1, math.MaxInt}
	for _, root := range roots {
		for _, e := range []bool{false, true} {
			for _, n := range []uint64{0, 1, math.MaxUint64} {
				rootless := api.Caps{Ver: 2, Permitted: n, Inheritable: n, Effective: e, Root: root}
				rooted := api.Caps{Ver: 3, Permitted: n, Inheritable: n, Effective: e, Root: root}
				if agrees(t, rootless) != (root == 0) || agrees(t, rooted) != (root >= 0 && root <= maxId) {
					t.Errorf("the words say otherwise of the Root %d", root)
				}
			}
		}
	}
	for bit := range 63 {
		wrong(t, api.Caps{Ver: 2, Root: 1 << bit})
		wrong(t, api.Caps{Ver: 2, Root: -1 << bit})
		wrong(t, api.Caps{Ver: 3, Root: -1 << bit})
		if bit < 31 {
			good(t, api.Caps{Ver: 3, Root: 1 << bit}, withBit(three, 20+bit/8, bit))
		} else {
			wrong(t, api.Caps{Ver: 3, Root: 1 << bit})
			wrong(t, api.Caps{Ver: 3, Root: 1<<bit + 1})
		}
	}
}

// With Ver 0 there are no capabilities: no other field says anything.
func TestNone(t *testing.T) {
	good(t, api.Caps{}, "")
	for _, c := range []api.Caps{
		{Permitted: 1}, {Permitted: 1 << 63}, {Permitted: math.MaxUint64}, {Inheritable: 1}, {Inheritable: 1 << 63}, {Inheritable: math.MaxUint64},
		{Effective: true}, {Root: 1}, {Root: -1}, {Root: maxId}, {Root: 1 << 32}, {Root: math.MinInt}, {Root: math.MaxInt},
		{Permitted: 1, Inheritable: 1}, {Permitted: 1, Effective: true}, {Effective: true, Root: 1}, {Permitted: 1, Inheritable: 1, Effective: true, Root: 1},
	} {
		wrong(t, c)
	}
}

func TestWrongVer(t *testing.T) {
	vers := []int{1, 4, 5, 6, 7, 8, 10, 12, 16, 18, 32, 64, 127, 128, 130, 255, 256, 257, 258, 259, 512, 514, 515, 65538, 65539, 1 << 24, 2 << 24, 3 << 24, maxId, 1 << 31, 1 << 32, 1<<32 + 2, 1<<32 + 3, 1<<40 + 2, math.MaxInt - 1, math.MaxInt}
	for _, ver := range vers {
		for _, v := range []int{ver, -ver, -1, -2, -3, math.MinInt, math.MinInt + 2, math.MinInt + 3} {
			for _, c := range []api.Caps{{}, {Permitted: 1}, {Inheritable: 1}, {Effective: true}, {Root: 1}, {Root: -1}, {Permitted: math.MaxUint64, Inheritable: math.MaxUint64, Effective: true, Root: maxId}} {
				c.Ver = v
				wrong(t, c)
			}
		}
	}
	for ver := -300; ver <= 600; ver++ {
		if agrees(t, api.Caps{Ver: ver}) != (ver == 0 || ver == 2 || ver == 3) {
			t.Errorf("the words say otherwise of the Ver %d", ver)
		}
	}
}

// Each number of bytes but the right one is wrong, be it too small or too great.
func TestWrongLength(t *testing.T) {
	for _, c := range some() {
		s := Put(c)
		for n := 1; n < len(s); n++ {
			fails(t, s[:n])
			fails(t, s[n:])
		}
		for _, more := range []string{"\x00", "\x01", "\xff", zeros(2), zeros(3), zeros(5), zeros(8), zeros(20), zeros(1000), s, two, three, rep("\xff", 4)} {
			fails(t, s+more)
		}
		fails(t, "\x00"+s)
		fails(t, zeros(4)+s)
		// As many bytes as the other version has.
		if c.Ver == 2 {
			for _, more := range []string{zeros(4), "\x01\x00\x00\x00", "\xff\xff\xff\x7f", "\xff\xff\xff\xff"} {
				fails(t, s+more)
			}
			fails(t, s[:3]+"\x03"+s[4:])
		} else {
			fails(t, s[:20])
			fails(t, s[:3]+"\x02"+s[4:])
		}
	}
	for n := 1; n < 100; n++ {
		fails(t, zeros(n))
		fails(t, rep("\xff", n))
		for v := range 256 {
			s := zeros(3) + string([]byte{byte(v)}) + zeros(96)
			if getAgrees(t, s[:n]) != (n == 20 && v == 2 || n == 24 && v == 3) {
				t.Errorf("the words say otherwise of %q", s[:n])
			}
		}
	}
}

// Each bit of the first number but that of Effective and those of the version.
func TestWrongFirst(t *testing.T) {
	for _, s := range []string{two, three, "\x01" + two[1:], "\x01" + three[1:], Put(some()[50]), Put(some()[100])} {
		for bit := 1; bit < 24; bit++ {
			fails(t, withBit(s, bit/8, bit))
			fails(t, withBit("\x01"+s[1:], bit/8, bit))
		}
		for bit := 24; bit < 32; bit++ {
			turned := []byte(s)
			turned[3] ^= 1 << (bit % 8)
			fails(t, string(turned))
		}
		// With the most significant byte first.
		fails(t, s[3:4]+"\x00\x00"+s[:1]+s[4:])
		fails(t, "\x00"+s[1:3]+"\x00"+s[4:])
		fails(t, "\xff\xff\xff\xff"+s[4:])
	}
}

func TestWrongRoot(t *testing.T) {
	for _, root := range []string{"\x00\x00\x00\x80", "\x01\x00\x00\x80", "\xff\xff\xff\x80", "\x00\x00\x00\xff", "\xff\xff\xff\xff", "\xfe\xff\xff\xff"} {
		for _, c := range some() {
			if c.Ver == 3 {
				fails(t, Put(c)[:20]+root)
			}
		}
	}
	for n := range 256 {
		s := three[:23] + string([]byte{byte(n)})
		if getAgrees(t, s) != (n < 128) {
			t.Errorf("the words say otherwise of %q", s)
		}
	}
}

// Each byte of an encoding turned into each other one: what is taken says what
// it says, and nothing else has the same encoding.
func TestEachByte(t *testing.T) {
	taken := 0
	for _, s := range []string{two, three, "\x01" + two[1:], "\x01\x00\x00\x02" + rep("\xff", 16), "\x01\x00\x00\x03" + rep("\xff", 19) + "\x7f", Put(some()[80])} {
		for i := range len(s) {
			for n := range 256 {
				if getAgrees(t, s[:i]+string([]byte{byte(n)})+s[i+1:]) {
					taken++
				}
			}
		}
	}
	if taken < 10000 {
		t.Errorf("the test meets %d encodings", taken)
	}
}

// mixed are capabilities of which many are valid.
func mixed(random *rand.Rand) api.Caps {
	return api.Caps{
		Ver:         []int{0, 1, 2, 2, 2, 3, 3, 3, 3, 4, -1, 258, random.Intn(1 << 20)}[random.Intn(13)],
		Permitted:   random.Uint64() >> random.Intn(65) << random.Intn(65),
		Inheritable: random.Uint64() >> random.Intn(65) << random.Intn(65),
		Effective:   random.Intn(2) == 0,
		Root:        []int{0, 0, 0, 1, random.Intn(1 << 31), random.Intn(1 << 31), maxId, maxId + 1, int(random.Uint64())}[random.Intn(9)],
	}
}

// 11.2, with capabilities of all kinds; none of two valid ones that differ have
// one encoding.
func TestMixed(t *testing.T) {
	random := rand.New(rand.NewSource(11))
	met := map[bool]int{}
	ofText := map[string]api.Caps{}
	for range 50000 {
		c := mixed(random)
		valid := agrees(t, c)
		met[valid]++
		if !valid {
			continue
		}
		s := Put(c)
		if other, is := ofText[s]; is && other != c {
			t.Errorf("11.2: Put(%+v) and Put(%+v) are %q", c, other, s)
		}
		ofText[s] = c
	}
	if met[true] < 10000 || met[false] < 10000 {
		t.Errorf("the test meets %v", met)
	}
}

func TestMixedBytes(t *testing.T) {
	random := rand.New(rand.NewSource(112))
	met := map[bool]int{}
	for range 50000 {
		b := make([]byte, []int{20, 20, 24, 24, 24, 19, 21, 23, 25, random.Intn(60)}[random.Intn(10)])
		random.Read(b)
		if len(b) > 3 {
			copy(b, []byte{byte(random.Intn(3)), 0, byte(random.Intn(10) / 9), byte(random.Intn(5))})
		}
		met[getAgrees(t, string(b))]++
	}
	if met[true] < 1000 || met[false] < 10000 {
		t.Errorf("the test meets %v", met)
	}
}

// R1: whatever is given, nothing panics, and each call ends.
func TestNoPanic(t *testing.T) {
	numbers := []int{math.MinInt, -1 << 32, -1 << 31, -1, 0, 1, 2, 3, 4, maxId, 1 << 31, 1 << 32, math.MaxInt}
	for _, ver := range numbers {
		for _, root := range numbers {
			for _, permitted := range numbers {
				for _, inheritable := range numbers {
					agrees(t, api.Caps{Ver: ver, Permitted: uint64(permitted), Inheritable: uint64(inheritable), Root: root})
					agrees(t, api.Caps{Ver: ver, Permitted: uint64(permitted), Inheritable: uint64(inheritable), Effective: true, Root: root})
				}
			}
		}
	}
	for _, s := range []string{"\x00", "\xff", "a", "\xc3\xa4", two, three} {
		fails(t, rep(s, 1<<20))
		fails(t, two+rep(s, 1<<20))
		fails(t, three+rep(s, 1<<20))
	}
}

// R3: two answers share no memory.
func TestNewMemory(t *testing.T) {
	for _, c := range some() {
		before := c
		if unsafe.StringData(Put(c)) == unsafe.StringData(Put(c)) {
			t.Errorf("R3: two encodings of %+v share memory", c)
		}
		if c != before {
			t.Errorf("R3: %+v was %+v", c, before)
		}
	}
}

// The way of the chapter: missing bytes panic inside, and with nothing but what
// is meant for it.
func TestWay(t *testing.T) {
	for _, c := range []struct {
		s    string
		caps api.Caps
	}{
		{two, api.Caps{Ver: 2}}, {three, api.Caps{Ver: 3}}, {"\x01" + two[1:], api.Caps{Ver: 2, Effective: true}}, {three[:20] + "\xff\xff\xff\x7f", api.Caps{Ver: 3, Root: maxId}},
		{"", api.Caps{}}, {"\x00", api.Caps{}}, {two[:3], api.Caps{}}, {two[:4], api.Caps{}}, {two[:5], api.Caps{}}, {two[:16], api.Caps{}}, {two[:19], api.Caps{}}, {three[:20], api.Caps{}}, {three[:23], api.Caps{}},
		{two + "\x00", api.Caps{}}, {three + "\x00", api.Caps{}}, {two + zeros(4), api.Caps{}}, {zeros(20), api.Caps{}}, {zeros(24), api.Caps{}}, {rep("\xff", 24), api.Caps{}}, {three[:20] + "\x00\x00\x00\x80", api.Caps{}},
	} {
		func() {
			defer func() {
				got := recover()
				if _, is := got.(noCaps); is != (c.caps == api.Caps{}) || got != nil && !is {
					t.Errorf("11, Ways: the decoding of %q panics with %T", c.s, got)
				}
			}()
			if got := decode(c.s); got != c.caps {
				t.Errorf("11, Ways: the decoding of %q gives %+v", c.s, got)
			}
		}()
	}
}

func FuzzGet(f *testing.F) {
	for _, c := range some() {
		f.Add(wantPut(c))
		f.Add(wantPut(c) + zeros(4))
	}
	f.Add(three[:20] + "\x00\x00\x00\x80")
	f.Add("")
	f.Fuzz(func(t *testing.T, s string) { getAgrees(t, s) })
}

func FuzzMay(f *testing.F) {
	for _, c := range some() {
		f.Add(c.Ver, c.Permitted, c.Inheritable, c.Effective, c.Root)
		f.Add(c.Ver-2, c.Permitted, c.Inheritable, c.Effective, -c.Root)
	}
	f.Fuzz(func(t *testing.T, ver int, permitted, inheritable uint64, effective bool, root int) {
		agrees(t, api.Caps{Ver: ver, Permitted: permitted, Inheritable: inheritable, Effective: effective, Root: root})
	})
}
