package text

import (
	"fmt"
	"strings"
	"testing"
	"unicode/utf8"
)

// want reads s with the library's decoder: the first index at which it finds no
// character, or -1, and the number of characters ahead of that.
func want(s string) (bad, count int) {
	for bad < len(s) {
		r, size := utf8.DecodeRuneInString(s[bad:])
		if r == utf8.RuneError && size == 1 {
			return bad, count
		}
		bad += size
		count++
	}
	return -1, count
}

// readsAs tells a fault if one of the three calls answers otherwise.
func readsAs(t *testing.T, s string, bad, count int) {
	t.Helper()
	if got := Bad(s); got != bad {
		t.Errorf("5.1: Bad(%.60q) of %d bytes = %d; want %d", s, len(s), got, bad)
	}
	if got := Count(s); got != count {
		t.Errorf("5.1: Count(%.60q) of %d bytes = %d; want %d", s, len(s), got, count)
	}
	if got := Valid(s); got != (bad == -1) {
		t.Errorf("5.1: Valid(%.60q) of %d bytes = %v; Bad is %d", s, len(s), got, bad)
	}
}

// agrees tells a fault if s is read otherwise than by the library.
func agrees(t *testing.T, s string) {
	t.Helper()
	bad, count := want(s)
	readsAs(t, s, bad, count)
}

// within checks s, of so many characters ahead of the index bad, alone and
// between others.
func within(t *testing.T, s string, bad, count int) {
	t.Helper()
	for _, x := range []struct {
		before string
		count  int
		behind string
		more   int
	}{
		{"", 0, "", 0}, {"a", 1, "b", 1}, {"\xc3\xa4", 1, "\xe2\x82\xac", 1}, {"a\xf0\x90\x80\x80", 2, "\x00", 1}, {"", 0, "\xff", 0}, {"\xff", 0, "", 0},
	} {
		whole := x.before + s + x.behind
		switch {
		case x.before == "\xff":
			readsAs(t, whole, 0, 0)
		case bad >= 0:
			readsAs(t, whole, len(x.before)+bad, x.count+count)
		case x.behind == "\xff":
			readsAs(t, whole, len(x.before+s), x.count+count)
		default:
			readsAs(t, whole, -1, x.count+count+x.more)
		}
	}
}

// inBytes writes a number in so many bytes by the words of the rule, whether or
// not a character with this number has that many.
func inBytes(number, size int) string {
	bits := fmt.Sprintf("%021b", number)
	switch last := func(n int) string { return bits[len(bits)-n:] }; size {
	case 1:
		return fromBits("0" + last(7))
	case 2:
		b := last(11)
		return fromBits("110"+b[:5], "10"+b[5:])
	case 3:
		b := last(16)
		return fromBits("1110"+b[:4], "10"+b[4:10], "10"+b[10:])
	default:
		b := last(21)
		return fromBits("11110"+b[:3], "10"+b[3:9], "10"+b[9:15], "10"+b[15:])
	}
}

func fromBits(bytes ...string) string {
	var b []byte
	for _, s := range bytes {
		var c byte
		if _, err := fmt.Sscanf(s, "%b", &c); err != nil || len(s) != 8 {
			panic("the test writes no byte: " + s)
		}
		b = append(b, c)
	}
	return string(b)
}

// sizeOf returns how many bytes the character with a number has, or 0 if there
// is none.
func sizeOf(number int) int {
	switch {
	case number > 1114111 || 55296 <= number && number <= 57343:
		return 0
	case number >= 65536:
		return 4
	case number >= 2048:
		return 3
	case number >= 128:
		return 2
	default:
		return 1
	}
}

func one(c int) string { return string([]byte{byte(c)}) }

func TestExamples(t *testing.T) {
	if !Valid("\xc3\xa4") || Valid("\xc0\x80") {
		t.Errorf("5.1: Valid(c3 a4) = %v, Valid(c0 80) = %v", Valid("\xc3\xa4"), Valid("\xc0\x80"))
	}
	if got := Bad("\xff"); got != 0 {
		t.Errorf("5.1: Bad(ff) = %d", got)
	}
	if got := Count("\x61\xc3\xa4\xbf"); got != 2 {
		t.Errorf("5.1: Count(61 c3 a4 bf) = %d", got)
	}
}

func TestKnown(t *testing.T) {
	for _, c := range []struct {
		s          string
		bad, count int
	}{
		{"", -1, 0},
		{"\x00", -1, 1},
		{"a", -1, 1},
		{"user.name", -1, 9},
		{"\n\t\x7f ", -1, 4},
		{"\xc3\xa9t\xc3\xa9", -1, 3},
		{"\xe6\x97\xa5\xe6\x9c\xac", -1, 2},
		{"\xf0\x9f\x98\x80", -1, 1},
		{"a\xc3\xa4\xe2\x82\xac\xf0\x9f\x98\x80z", -1, 5},
		{"\xef\xbb\xbfa", -1, 2}, // a byte order mark is a character
		{"\xef\xbf\xbd", -1, 1},  // and so is U+FFFD
		{"\xef\xbf\xbe", -1, 1},  // U+FFFE
		{"\xef\xbf\xbf", -1, 1},  // U+FFFF
		{"e\xcc\x81", -1, 2},     // a letter and its accent
		{"a\xff", 1, 1},          // no first byte
		{"\xe4", 0, 0},           // Latin-1
		{"gr\xfcn", 2, 2},        // Latin-1
		{"ab\x80", 2, 2},         // a further byte
		{"\xc3\xa4\xa4", 2, 1},   // one too many
		{"\xe2\x82", 0, 0},       // one too few
		{"ab\xe2\x82", 2, 2},     // the index is that of the first byte
		{"ab\xe2\x82c", 2, 2},
		{"a\xf0\x9f\x98", 1, 1},
		{"a\xf0\x9f\x98b", 1, 1},
		{"\xc3\xa4\xc0\xaf", 2, 1},   // `/` in two bytes
		{"..\xe0\x80\xaf", 2, 2},     // in three
		{"..\xf0\x80\x80\xaf", 2, 2}, // in four
		{"\xc0\x80", 0, 0},           // 0 in two
		{"x\xed\xa0\xbd\xed", 1, 1},  // half of a pair of sixteen bits each
		{"x\xed\xb8\x80", 1, 1},      // the other half
		{"x\xf4\x90\x80\x80", 1, 1},  // 1114112
		{"\xf8\x88\x80\x80\x80", 0, 0},
		{"\xfc\x84\x80\x80\x80\x80", 0, 0},
		{"\xff\xfea\x00", 0, 0},
		{"a\xffb\xff", 1, 1}, // the first one is told
	} {
		readsAs(t, c.s, c.bad, c.count)
	}
}

// The numbers at the edges, each in one to four bytes as far as these have room.
func TestEdges(t *testing.T) {
	for _, c := range []struct{ number, size int }{
		{0, 1}, {1, 1}, {127, 1}, {128, 2}, {2047, 2}, {2048, 3}, {55295, 3}, {55296, 0}, {56319, 0}, {56320, 0}, {57343, 0}, {57344, 3},
		{65533, 3}, {65535, 3}, {65536, 4}, {131071, 4}, {262144, 4}, {1048575, 4}, {1048576, 4}, {1114111, 4}, {1114112, 0}, {1<<21 - 1, 0},
	} {
		if got := sizeOf(c.number); got != c.size {
			t.Fatalf("the test takes %d to have %d bytes", c.number, got)
		}
		for size, room := range []int{1: 7, 2: 11, 3: 16, 4: 21} {
			if size == 0 || c.number>>room != 0 {
				continue
			}
			s := inBytes(c.number, size)
			if size == c.size {
				within(t, s, -1, 1)
			} else {
				within(t, s, 0, 0)
			}
		}
	}
}

// Each number of up to 21 bits in each count of bytes that has room for it: one
// at most is right, and it is the library's.
func TestEachNumber(t *testing.T) {
	right := [5]int{}
	for number := range 1 << 21 {
		for size, room := range []int{1: 7, 2: 11, 3: 16, 4: 21} {
			if size == 0 || number>>room != 0 {
				continue
			}
			lead := [5]int{1: 0, 2: 0xc0, 3: 0xe0, 4: 0xf0}[size]
			b := []byte{byte(lead | number>>(6*(size-1)))}
			for i := size - 2; i >= 0; i-- {
				b = append(b, byte(0x80|number>>(6*i)&63))
			}
			ok := sizeOf(number) == size
			if ok {
				right[size]++
			}
			if got := Valid(string(b)); got != ok {
				t.Fatalf("5.1: Valid of %d in %d bytes, % x, = %v", number, size, b, got)
			}
			if ok && string(b) != string(rune(number)) {
				t.Fatalf("the test writes %d as % x", number, b)
			}
		}
	}
	if right != [5]int{1: 128, 2: 1920, 3: 61440, 4: 1048576} {
		t.Errorf("the test met %v characters of each length", right)
	}
}

// Every byte, every two, and every three of which the first is at least 192.
func TestShortStrings(t *testing.T) {
	for a := range 256 {
		agrees(t, one(a))
		for b := range 256 {
			agrees(t, one(a)+one(b))
		}
	}
	valid := 0
	for n := range 1 << 22 {
		s := string([]byte{byte(n>>16) | 0xc0, byte(n >> 8), byte(n)})
		if got := Bad(s); got == -1 {
			valid++
		} else if index, _ := want(s); got != index {
			t.Fatalf("5.1: Bad(%q) = %d; want %d", s, got, index)
		}
	}
	// 61440 characters of three bytes, 1920 of two with one of 128 behind.
	if valid != 61440+1920*128 {
		t.Errorf("5.1: %d strings of three bytes are valid", valid)
	}
}

// All strings of four bytes out of those at the edges of the rule.
func TestEdgeBytes(t *testing.T) {
	edges := []int{0x00, 0x41, 0x7f, 0x80, 0x8f, 0x90, 0x9f, 0xa0, 0xbf, 0xc0, 0xc1, 0xc2, 0xdf, 0xe0, 0xe1, 0xec, 0xed, 0xee, 0xef, 0xf0, 0xf1, 0xf3, 0xf4, 0xf5, 0xf7, 0xf8, 0xfb, 0xfc, 0xff}
	for _, a := range edges {
		for _, b := range edges {
			for _, c := range edges {
				for _, d := range edges {
					agrees(t, string([]byte{byte(a), byte(b), byte(c), byte(d)}))
				}
			}
		}
	}
}

// A byte that is no first one of any character, with as many further bytes as
// one may take it to ask for.
func TestNoFirstByte(t *testing.T) {
	met := 0
	for c := 128; c < 256; c++ {
		if 0xc2 <= c && c <= 0xf4 {
			continue
		}
		met++
		for n := range 7 {
			within(t, one(c)+strings.Repeat("\x80", n), 0, 0)
			within(t, one(c)+strings.Repeat("\xbf", n), 0, 0)
			within(t, "a"+one(c)+strings.Repeat("a", n), 1, 1)
		}
	}
	if met != 64+2+11 {
		t.Errorf("the test met %d bytes", met)
	}
}

// A character that lacks its last bytes, at the end of the string and ahead of
// each byte that is no further one.
func TestTooEarly(t *testing.T) {
	for _, s := range []string{"\xc2\x80", "\xc3\xa4", "\xdf\xbf", "\xe0\xa0\x80", "\xe2\x82\xac", "\xed\x9f\xbf", "\xef\xbf\xbf", "\xf0\x90\x80\x80", "\xf0\x9f\x98\x80", "\xf4\x8f\xbf\xbf"} {
		within(t, s, -1, 1)
		for n := 1; n < len(s); n++ {
			within(t, s[:n], 0, 0)
			within(t, s+s[:n], len(s), 1)
			within(t, "ab"+s[:n], 2, 2)
			for c := range 256 {
				if c>>6 == 2 {
					continue
				}
				within(t, s[:n]+one(c), 0, 0)
				within(t, s[:n]+one(c)+s[n:], 0, 0)
				within(t, s[:n]+one(c)+s[n+1:], 0, 0)
				within(t, "a"+s+s[:n]+one(c), 1+len(s), 2)
			}
		}
	}
}

// The way of the chapter: what ends too early panics inside, what is wrong
// otherwise does not.
func TestWay(t *testing.T) {
	for s, early := range map[string]bool{
		"a": false, "\xc3\xa4": false, "\x80": false, "\xff": false, "\xc0\x80": false, "\xed\xa0\x80": false, "\xf4\x90\x80\x80": false, "\xf8": false,
		"\xc3": true, "\xc3a": true, "\xe2": true, "\xe2\x82": true, "\xe2\x82\xff": true, "\xf0\x9f\x98": true, "\xf0\x9f\x98\xc3": true,
	} {
		func() {
			defer func() {
				if _, is := recover().(endsEarly); is != early {
					t.Errorf("5, Ways: the reading of %q panics: %v", s, is)
				}
			}()
			character(s)
		}()
	}
}

// mixed returns n characters of one to four bytes, and where each begins.
func mixed(n int, seed uint64) (s string, starts []int) {
	var b []byte
	for range n {
		starts = append(starts, len(b))
		seed = seed*6364136223846793005 + 1442695040888963407
		number := int(seed>>40) % (128 << (seed >> 61 * 2))
		for sizeOf(number) == 0 {
			number /= 2
		}
		b = utf8.AppendRune(b, rune(number))
	}
	return string(b), starts
}

// Mixed characters, the string cut off at each byte, and each byte turned.
func TestMixed(t *testing.T) {
	met := [5]int{}
	for n := range 60 {
		s, starts := mixed(n, uint64(n))
		readsAs(t, s, -1, n)
		for _, r := range s {
			met[utf8.RuneLen(r)]++
		}
		for i := range len(s) {
			agrees(t, s[:i])
			agrees(t, s[i:])
			for _, c := range []int{0, 0x61, 0x80, 0xbf, 0xc3, 0xe2, 0xf0, 0xff} {
				agrees(t, s[:i]+one(c)+s[i:])
				agrees(t, s[:i]+one(c)+s[i+1:])
			}
		}
		for i, at := range starts {
			readsAs(t, s[:at], -1, i)
			readsAs(t, s[:at]+"\xff"+s[at:], at, i)
			readsAs(t, s[:at]+"\x80"+s[at:], at, i)
			readsAs(t, s[:at]+"\xc0\x80"+s[at:], at, i)
		}
	}
	for size := 1; size <= 4; size++ {
		if met[size] < 50 {
			t.Errorf("the test met %d characters of %d bytes", met[size], size)
		}
	}
}

func TestLong(t *testing.T) {
	for _, n := range []int{1<<16 - 1, 1 << 16, 1<<16 + 1, 1 << 20} {
		for _, c := range []string{"a", "\xc3\xa4", "\xe2\x82\xac", "\xf0\x9f\x98\x80"} {
			s := strings.Repeat(c, n)
			readsAs(t, s, -1, n)
			readsAs(t, s+"\xff", len(s), n)
			readsAs(t, s+"\xe2\x82", len(s), n)
			if len(c) == 1 {
				readsAs(t, s[1:], -1, n-1)
				continue
			}
			readsAs(t, s[1:], 0, 0)
			readsAs(t, s[:len(s)-1], len(s)-len(c), n-1)
		}
	}
}

// Two valid strings joined are valid, and the characters of both are counted.
// Two of which the first is not valid are bad where that is.
func TestJoined(t *testing.T) {
	texts := []string{"", "a", "\x00", "\x7f", "\xc2\x80", "\xdf\xbf", "\xe0\xa0\x80", "\xed\x9f\xbf", "\xee\x80\x80", "\xef\xbf\xbf", "\xf0\x90\x80\x80", "\xf4\x8f\xbf\xbf", "a\xc3\xa4", "\xe2\x82\xac!"}
	for n := range 20 {
		s, _ := mixed(n, uint64(n+100))
		texts = append(texts, s)
	}
	wrong := []string{"\xff", "\x80", "\xc3", "a\xe2\x82", "\xf0\x9f\x98", "\xed\xa0\x80", "ab\xc0\x80"}
	for _, a := range texts {
		for _, b := range texts {
			if !Valid(a) || !Valid(b) || !Valid(a+b) {
				t.Errorf("5.2: Valid(%q) = %v, Valid(%q) = %v, joined %v", a, Valid(a), b, Valid(b), Valid(a+b))
			}
			readsAs(t, a+b, -1, Count(a)+Count(b))
		}
		for _, b := range wrong {
			readsAs(t, a+b, len(a)+Bad(b), Count(a)+Count(b))
			readsAs(t, b+a, Bad(b), Count(b))
		}
	}
}

// What is joined may be valid where its parts are not.
func TestCut(t *testing.T) {
	for _, s := range []string{"\xc3\xa4", "\xe2\x82\xac", "\xf0\x9f\x98\x80"} {
		for n := 1; n < len(s); n++ {
			readsAs(t, s[:n], 0, 0)
			readsAs(t, s[n:], 0, 0)
		}
		readsAs(t, s, -1, 1)
	}
}

func FuzzBad(f *testing.F) {
	for _, s := range []string{"", "abc", "a\xc3\xa4\xe2\x82\xac\xf0\x9f\x98\x80", "\xff", "\xc0\x80", "\xed\xa0\x80", "\xf4\x90\x80\x80", "\xe2\x82", "a\x80"} {
		f.Add(s)
	}
	f.Fuzz(func(t *testing.T, s string) {
		agrees(t, s)
	})
}
