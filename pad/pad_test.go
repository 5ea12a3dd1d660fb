package pad

import (
	"math"
	"math/big"
	"math/rand"
	"strings"
	"testing"
	"unsafe"

	"gripsack/api"
)

func rep(s string, n int) string { return strings.Repeat(s, n) }

func zeros(n int) string { return rep("\x00", n) }

// wantSize is what Size answers, by the words of the chapter, in numbers without
// bounds.
func wantSize(n int) int {
	if n < 0 {
		return 0
	}
	if n > 1<<62 {
		return 1 << 62
	}
	block := big.NewInt(512)
	blocks, rest := new(big.Int).QuoRem(big.NewInt(int64(n)), block, new(big.Int))
	if rest.Sign() > 0 {
		blocks.Add(blocks, big.NewInt(1))
	}
	return int(blocks.Mul(blocks, block).Int64())
}

// wantPut is what Put answers: bytes 0 are added one by one.
func wantPut(s string) string {
	b := []byte(s)
	for len(b)%512 != 0 {
		b = append(b, 0)
	}
	return string(b)
}

// want is what Get answers, by the words of the chapter.
func want(s string, at, n int) (data string, next int, e api.Errno) {
	if at < 0 || at > len(s) || n < 0 || n > 1<<62 {
		return "", 0, api.ErrArg
	}
	if len(s)-at < wantSize(n) {
		return "", 0, api.ErrMore
	}
	next = at
	for count := 0; count < n || count%512 != 0; count++ {
		if count >= n && s[next] != 0 {
			return "", 0, api.ErrForm
		}
		next++
	}
	return s[at : at+n], next, api.OK
}

// sizes tells a fault if Size answers otherwise.
func sizes(t *testing.T, n, size int) {
	t.Helper()
	if got := Size(n); got != size {
		t.Errorf("8.1: Size(%d) = %d; want %d", n, got, size)
	}
}

// gets tells a fault if Get answers otherwise.
func gets(t *testing.T, s string, at, n int, data string, next int, e api.Errno) {
	t.Helper()
	gotData, gotNext, gotE := Get(s, at, n)
	if gotData != data || gotNext != next || gotE != e {
		t.Errorf("8.2: Get(%.60q of %d bytes, %d, %d) = %.60q of %d bytes, %d, %d; want %.60q of %d, %d, %d",
			s, len(s), at, n, gotData, len(gotData), gotNext, gotE, data, len(data), next, e)
	}
}

// fails tells a fault if Get answers another error, or anything beside it.
func fails(t *testing.T, s string, at, n int, e api.Errno) {
	t.Helper()
	gets(t, s, at, n, "", 0, e)
}

// agrees tells a fault if Get answers otherwise than by the words.
func agrees(t *testing.T, s string, at, n int) api.Errno {
	t.Helper()
	data, next, e := want(s, at, n)
	gets(t, s, at, n, data, next, e)
	return e
}

// around is what may stand ahead of data, and behind it.
var around = []string{"", "x", "\x00", "xyz", rep("\x00", 512), rep("ahead", 100), rep("\xff", 511), wantPut("other data"), rep("more", 1000)}

// puts tells a fault if s is padded otherwise, or is not got back.
func puts(t *testing.T, s string) {
	t.Helper()
	padded := wantPut(s)
	if got := Put(s); got != padded {
		t.Errorf("8.1: Put(%.60q of %d bytes) has %d bytes; want %d: %.60q", s, len(s), len(got), len(padded), got)
	}
	if len(padded) != Size(len(s)) {
		t.Errorf("8.1: Put of %d bytes has %d bytes; Size is %d", len(s), len(padded), Size(len(s)))
	}
	for _, ahead := range around {
		for _, behind := range around {
			gets(t, ahead+Put(s)+behind, len(ahead), len(s), s, len(ahead)+len(padded), api.OK)
		}
	}
}

// some are data of the usual kinds and lengths.
func some() []string {
	return []string{
		"", "a", "ab", "a line\n", "\x00", "\xff", "\xc3\xa4", "a\x00b",
		rep("b", 300), rep("c", 511), rep("d", 512), rep("e", 513), rep("data ", 200),
		rep("f", 1023), rep("g", 1024), rep("h", 1025), rep("some thousand ", 500), rep("\xff\xfe", 4096),
		// Data that ends with bytes 0, or holds nothing else.
		"a\x00", "a" + zeros(510), "a" + zeros(511), "a" + zeros(512), rep("i", 511) + "\x00", rep("j", 512) + "\x00", rep("k", 600) + zeros(600),
		zeros(2), zeros(511), zeros(512), zeros(513), zeros(700), zeros(5000),
	}
}

func TestExamples(t *testing.T) {
	sizes(t, 1, 512)
	s := rep("a", 511)
	if got := Put(s); got != s+"\x00" {
		t.Errorf("8.1: Put of 511 bytes = %q", got)
	}
	fails(t, "ab"+zeros(510), 0, 1, api.ErrForm)
}

func TestSize(t *testing.T) {
	for _, c := range []struct{ n, size int }{
		{0, 0}, {1, 512}, {2, 512}, {256, 512}, {510, 512}, {511, 512}, {512, 512}, {513, 1024}, {1023, 1024}, {1024, 1024}, {1025, 1536},
		{65535, 65536}, {65536, 65536}, {65537, 66048}, {1<<31 - 1, 1 << 31}, {1 << 31, 1 << 31}, {1<<31 + 1, 1<<31 + 512}, {1<<32 - 511, 1 << 32}, {1<<53 + 1, 1<<53 + 512},
		// Below 0.
		{-1, 0}, {-2, 0}, {-511, 0}, {-512, 0}, {-513, 0}, {-1024, 0}, {-1 << 31, 0}, {-1 << 62, 0}, {-1<<62 - 1, 0}, {math.MinInt + 1, 0}, {math.MinInt, 0},
		// Near the greatest size, and beyond it.
		{1<<62 - 1024, 1<<62 - 1024}, {1<<62 - 1023, 1<<62 - 512}, {1<<62 - 513, 1<<62 - 512}, {1<<62 - 512, 1<<62 - 512}, {1<<62 - 511, 1 << 62}, {1<<62 - 2, 1 << 62}, {1<<62 - 1, 1 << 62},
		{1 << 62, 1 << 62}, {1<<62 + 1, 1 << 62}, {1<<62 + 512, 1 << 62}, {1<<62 + 513, 1 << 62}, {math.MaxInt - 512, 1 << 62}, {math.MaxInt - 511, 1 << 62}, {math.MaxInt - 1, 1 << 62}, {math.MaxInt, 1 << 62},
	} {
		sizes(t, c.n, c.size)
		if w := wantSize(c.n); w != c.size {
			t.Errorf("the words give %d for %d; the table %d", w, c.n, c.size)
		}
	}
}

// All small numbers, those near each power of two, and mixed ones.
func TestSizeLeast(t *testing.T) {
	for n := -3000; n <= 70000; n++ {
		sizes(t, n, wantSize(n))
	}
	for k := range 63 {
		for d := -1030; d <= 1030; d++ {
			sizes(t, 1<<k+d, wantSize(1<<k+d))
			sizes(t, -1<<k+d, wantSize(-1<<k+d))
		}
	}
	random := rand.New(rand.NewSource(8))
	for range 20000 {
		n := int(random.Uint64()) >> random.Intn(64)
		sizes(t, n, wantSize(n))
	}
}

func TestUsual(t *testing.T) {
	for _, s := range some() {
		puts(t, s)
	}
}

func TestPut(t *testing.T) {
	for _, c := range []struct{ s, padded string }{
		{"", ""}, {"a", "a" + zeros(511)}, {"\x00", zeros(512)},
		{rep("a", 511), rep("a", 511) + "\x00"}, {rep("a", 512), rep("a", 512)}, {rep("a", 513), rep("a", 513) + zeros(511)}, {rep("a", 1024), rep("a", 1024)},
		{"a\x00", "a" + zeros(511)}, {"a" + zeros(511), "a" + zeros(511)}, {"a" + zeros(512), "a" + zeros(1023)},
		{zeros(511), zeros(512)}, {zeros(512), zeros(512)}, {zeros(513), zeros(1024)}, {rep("\xff", 1000), rep("\xff", 1000) + zeros(24)},
	} {
		if got := Put(c.s); got != c.padded {
			t.Errorf("8.1: Put of %d bytes has %d bytes; want %d: %.60q", len(c.s), len(got), len(c.padded), got)
		}
	}
}

// All lengths up to some blocks, each byte, and many bytes.
func TestPutLengths(t *testing.T) {
	all := make([]byte, 1<<20)
	rand.New(rand.NewSource(8)).Read(all)
	data := string(all)
	for n := range 2100 {
		s := data[:n]
		padded := wantPut(s)
		if got := Put(s); got != padded {
			t.Errorf("8.1: Put of %d bytes has %d bytes: %.60q", n, len(got), got)
		}
		gets(t, Put(s), 0, n, s, len(padded), api.OK)
		gets(t, "xyz"+Put(s)+"more", 3, n, s, 3+len(padded), api.OK)
	}
	for n := range 256 {
		puts(t, string([]byte{byte(n)}))
		puts(t, rep(string([]byte{byte(n)}), 600))
	}
	for _, n := range []int{1<<16 - 1, 1 << 16, 1<<16 + 1, 1<<20 - 1, 1 << 20} {
		if got := Put(data[:n]); got != wantPut(data[:n]) {
			t.Errorf("8.1: Put of %d bytes has %d bytes", n, len(got))
		}
		gets(t, "x"+Put(data[:n])+"x", 1, n, data[:n], 1+wantSize(n), api.OK)
	}
}

func TestGet(t *testing.T) {
	ab := "ab" + zeros(510)
	for _, c := range []struct {
		s     string
		at, n int
		data  string
		next  int
	}{
		// Nothing, at every index up to the end.
		{"", 0, 0, "", 0}, {"ab", 0, 0, "", 0}, {"ab", 1, 0, "", 1}, {"ab", 2, 0, "", 2}, {ab, 0, 0, "", 0}, {ab, 512, 0, "", 512}, {rep("x", 5000), 4999, 0, "", 4999},
		{ab, 0, 2, "ab", 512}, {ab, 0, 3, "ab\x00", 512}, {ab, 0, 511, ab[:511], 512}, {ab, 0, 512, ab, 512}, {"x" + ab, 1, 2, "ab", 513}, {"b" + zeros(600), 0, 1, "b", 512},
		// What stands ahead, or behind the padding, says nothing.
		{ab + "x", 0, 2, "ab", 512}, {ab + ab, 0, 2, "ab", 512}, {ab + ab, 512, 2, "ab", 1024}, {ab + rep("x", 512), 0, 2, "ab", 512}, {rep("x", 512) + ab, 512, 2, "ab", 1024}, {rep("x", 700) + ab + "x", 700, 2, "ab", 1212},
		{ab + ab, 2, 0, "", 2}, {ab + ab, 1, 512, ab[1:] + "a", 513}, {ab + ab, 2, 512, ab[2:] + "ab", 514},
		// Whole blocks: there is no padding to be looked at.
		{rep("x", 512), 0, 512, rep("x", 512), 512}, {rep("x", 513), 0, 512, rep("x", 512), 512}, {rep("x", 513), 1, 512, rep("x", 512), 513}, {rep("x", 1024), 0, 1024, rep("x", 1024), 1024}, {rep("x", 1024), 0, 512, rep("x", 512), 512}, {rep("x", 1024), 512, 512, rep("x", 512), 1024}, {rep("x", 5120), 1024, 4096, rep("x", 4096), 5120},
		{rep("x", 512) + zeros(512), 0, 512, rep("x", 512), 512}, {rep("x", 513) + zeros(511), 0, 513, rep("x", 513), 1024},
		{zeros(512), 0, 0, "", 0}, {zeros(512), 0, 1, "\x00", 512}, {zeros(1024), 0, 513, zeros(513), 1024}, {zeros(1024), 512, 512, zeros(512), 1024},
	} {
		gets(t, c.s, c.at, c.n, c.data, c.next, api.OK)
		agrees(t, c.s, c.at, c.n)
	}
	// The blocks are counted from the index on: here they end in other data.
	fails(t, ab+ab, 1, 1, api.ErrForm)
	fails(t, ab+ab, 1, 511, api.ErrForm)
	fails(t, ab+ab, 2, 510, api.ErrForm)
}

// Several data, one behind the other.
func TestRow(t *testing.T) {
	all := ""
	for _, s := range some() {
		all += Put(s)
	}
	at := 0
	for _, s := range some() {
		next := at + wantSize(len(s))
		gets(t, all, at, len(s), s, next, api.OK)
		gets(t, all+"x", at, len(s), s, next, api.OK)
		at = next
	}
	if at != len(all) {
		t.Errorf("8.3: the last data end at %d of %d bytes", at, len(all))
	}
	gets(t, all, at, 0, "", at, api.OK)
	fails(t, all, at, 1, api.ErrMore)
	fails(t, all, at+1, 0, api.ErrArg)
}

func TestWrongIndex(t *testing.T) {
	for _, s := range []string{"", "a", "ab" + zeros(510), rep("x", 512), zeros(5000)} {
		for _, n := range []int{0, 1, 2, 511, 512, 513, 1 << 62} {
			for _, at := range []int{-1, -2, -511, -512, -513, -len(s), -len(s) - 1, -1 << 62, math.MinInt + 1, math.MinInt} {
				if at < 0 {
					fails(t, s, at, n, api.ErrArg)
				}
			}
			for _, at := range []int{1, 2, 512, 513, 1 << 62, math.MaxInt - 512 - len(s), math.MaxInt - len(s)} {
				fails(t, s, len(s)+at, n, api.ErrArg)
			}
		}
	}
}

func TestWrongLength(t *testing.T) {
	for _, s := range []string{"", "a", "ab" + zeros(510), rep("x", 512), zeros(5000)} {
		for _, at := range []int{0, len(s) / 2, len(s)} {
			for _, n := range []int{-1, -2, -511, -512, -513, -len(s) - 1, -1 << 62, math.MinInt + 1, math.MinInt, 1<<62 + 1, 1<<62 + 2, 1<<62 + 512, math.MaxInt - 512, math.MaxInt - 511, math.MaxInt - 1, math.MaxInt} {
				fails(t, s, at, n, api.ErrArg)
			}
			// It is far too much, and yet a length.
			for _, n := range []int{1 << 62, 1<<62 - 1, 1<<62 - 511, 1<<62 - 512, 1 << 61, 1 << 32, 1 << 31, 5001} {
				fails(t, s, at, n, api.ErrMore)
			}
		}
	}
}

// With each byte too few, be the data there or not, there are bytes missing.
func TestMissing(t *testing.T) {
	for _, s := range some() {
		padded := wantPut(s)
		for left := 0; left < len(padded); left += 1 + len(padded)/2000 {
			fails(t, padded[:left], 0, len(s), api.ErrMore)
		}
		if s == "" {
			continue
		}
		for _, ahead := range around {
			fails(t, ahead, len(ahead), len(s), api.ErrMore)
			fails(t, ahead+padded[:len(padded)-1], len(ahead), len(s), api.ErrMore)
			fails(t, ahead+padded, len(ahead)+1, len(s), api.ErrMore)
		}
		fails(t, padded, len(padded), 1, api.ErrMore)
		fails(t, padded, 0, len(padded)+1, api.ErrMore)
		fails(t, s[:len(s)-1], 0, len(s), api.ErrMore)
	}
	for at := 1; at <= 512; at++ {
		fails(t, zeros(512), at, 1, api.ErrMore)
		fails(t, zeros(512), at, 512, api.ErrMore)
		gets(t, zeros(512), at, 0, "", at, api.OK)
	}
}

// A byte other than 0 at each place behind the data.
func TestWrongPadding(t *testing.T) {
	for _, s := range some() {
		padded := wantPut(s)
		for i := len(s); i < len(padded); i++ {
			for _, c := range []string{"\x01", " ", "0", "\x80", "\xff"} {
				turned := padded[:i] + c + padded[i+1:]
				fails(t, turned, 0, len(s), api.ErrForm)
				fails(t, "xyz"+turned+"more", 3, len(s), api.ErrForm)
				// It is one of the data, if they reach so far.
				gets(t, turned, 0, i+1, turned[:i+1], len(padded), api.OK)
				if i > len(s) {
					fails(t, turned, 0, i, api.ErrForm)
				}
			}
		}
		if len(padded) > len(s) {
			fails(t, s+rep("x", len(padded)-len(s)), 0, len(s), api.ErrForm)
			fails(t, s+rep("\xff", len(padded)-len(s)), 0, len(s), api.ErrForm)
		}
		// Behind the padding it may stand.
		gets(t, padded+"x", 0, len(s), s, len(padded), api.OK)
	}
	for n := 1; n < 256; n++ {
		c := string([]byte{byte(n)})
		fails(t, "a"+zeros(510)+c, 0, 1, api.ErrForm)
		fails(t, "a"+c+zeros(510), 0, 1, api.ErrForm)
		fails(t, c+c+zeros(510), 0, 1, api.ErrForm)
		fails(t, rep("a", 512)+"a"+zeros(300)+c+zeros(210), 0, 513, api.ErrForm)
	}
}

// Of two errors the one that is named first.
func TestTwoErrors(t *testing.T) {
	bad := "ab" + zeros(509) + "c"
	for _, c := range []struct {
		s     string
		at, n int
		e     api.Errno
	}{
		// A wrong index and a wrong length.
		{"", -1, -1, api.ErrArg}, {"", 1, -1, api.ErrArg}, {"", 1, 1<<62 + 1, api.ErrArg}, {bad, 513, math.MaxInt, api.ErrArg}, {bad, math.MinInt, math.MinInt, api.ErrArg}, {bad, math.MaxInt, math.MaxInt, api.ErrArg},
		// A wrong index and missing bytes.
		{"", -1, 1, api.ErrArg}, {"", 1, 1, api.ErrArg}, {bad, 513, 1, api.ErrArg}, {bad, -1, 1024, api.ErrArg}, {bad, 513, 1 << 62, api.ErrArg}, {bad, math.MinInt, 1 << 62, api.ErrArg},
		// A wrong length and missing bytes.
		{"", 0, 1<<62 + 1, api.ErrArg}, {bad, 512, 1<<62 + 1, api.ErrArg}, {bad, 1, math.MaxInt, api.ErrArg}, {bad, 512, -1, api.ErrArg},
		// A wrong index or length and a wrong byte.
		{bad, -1, 1, api.ErrArg}, {bad, -1, 2, api.ErrArg}, {bad, 0, -1, api.ErrArg}, {bad, 0, -512, api.ErrArg}, {bad + bad, 1025, 1, api.ErrArg},
		// Missing bytes and a wrong byte.
		{bad, 1, 1, api.ErrMore}, {bad, 2, 1, api.ErrMore}, {"ab", 0, 1, api.ErrMore}, {rep("x", 511), 0, 1, api.ErrMore}, {rep("x", 512), 1, 1, api.ErrMore}, {bad, 0, 513, api.ErrMore}, {rep("x", 1023), 0, 513, api.ErrMore}, {bad[:511], 0, 1, api.ErrMore},
		// A wrong byte alone.
		{bad, 0, 1, api.ErrForm}, {bad, 0, 2, api.ErrForm}, {bad, 0, 511, api.ErrForm}, {rep("x", 512), 0, 1, api.ErrForm}, {rep("x", 1024), 0, 513, api.ErrForm},
		{bad, 0, 512, api.OK}, {bad, 0, 0, api.OK}, {bad, 512, 0, api.OK},
	} {
		if e := agrees(t, c.s, c.at, c.n); e != c.e {
			t.Errorf("the words give %d for Get of %d bytes, %d, %d; the table %d", e, len(c.s), c.at, c.n, c.e)
		}
	}
}

// Mixed strings, indexes and lengths.
func TestMixed(t *testing.T) {
	random := rand.New(rand.NewSource(8))
	met := map[api.Errno]int{}
	for range 50000 {
		b := make([]byte, random.Intn(2000))
		for range random.Intn(4) {
			if len(b) > 0 {
				b[random.Intn(len(b))] = byte(random.Intn(256))
			}
		}
		at, n := random.Intn(len(b)+20)-10, random.Intn(len(b)+20)-10
		if random.Intn(2) == 0 {
			at = 0
		}
		met[agrees(t, string(b), at, n)]++
	}
	for _, e := range []api.Errno{api.OK, api.ErrArg, api.ErrMore, api.ErrForm} {
		if met[e] < 100 {
			t.Errorf("the test meets %v", met)
		}
	}
}

// R3: an answer shares no memory with an argument.
func TestNewMemory(t *testing.T) {
	for _, n := range []int{1, 511, 512, 513, 1024} {
		s := rep("x", n)
		if unsafe.StringData(Put(s)) == unsafe.StringData(s) {
			t.Errorf("R3: Put of %d bytes is its argument", n)
		}
		padded := wantPut(s)
		data, _, _ := Get(padded, 0, n)
		if unsafe.StringData(data) == unsafe.StringData(padded) {
			t.Errorf("R3: Get of %d bytes is a part of its argument", n)
		}
	}
}

// The way of the chapter: missing bytes panic inside, and nothing else does.
func TestWay(t *testing.T) {
	for _, c := range []struct {
		s string
		n int
	}{{"", 0}, {"", 1}, {"a", 0}, {"a", 1}, {"a", 2}, {zeros(511), 512}, {zeros(512), 512}, {zeros(512), 1024}, {rep("x", 512), 1 << 62}} {
		func() {
			defer func() {
				got := recover()
				if _, is := got.(missing); is != (c.n > len(c.s)) || got != nil && !is {
					t.Errorf("8, Ways: the reading of %d of %d bytes panics with %T", c.n, len(c.s), got)
				}
			}()
			if got := take(c.s, c.n); got != c.s[:c.n] {
				t.Errorf("8, Ways: the reading of %d of %d bytes gives %d", c.n, len(c.s), len(got))
			}
		}()
	}
}

func FuzzGet(f *testing.F) {
	for _, s := range some() {
		f.Add(wantPut(s), 0, len(s))
		f.Add("xyz"+wantPut(s)+"more", 3, len(s))
		f.Add(s, 0, len(s))
		f.Add(s+rep("x", 512), 0, len(s))
	}
	f.Add("", -1, math.MaxInt)
	f.Add("", 0, 1<<62)
	f.Fuzz(func(t *testing.T, s string, at, n int) {
		agrees(t, s, at, n)
		sizes(t, n, wantSize(n))
		if got := Put(s); got != wantPut(s) {
			t.Errorf("8.1: Put(%q) = %q", s, got)
		}
		gets(t, Put(s)+s, 0, len(s), s, wantSize(len(s)), api.OK)
	})
}
