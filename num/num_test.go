package num

import (
	"math"
	"math/big"
	"strings"
	"testing"
)

type encoder func(n, width int) (string, bool)
type reader func(s string) (int, bool)

// form is one of the three ways to write a number, with its names in the promises.
type form struct {
	name    string
	promise string
	encode  encoder
	read    reader
	want    encoder // the same by plain arithmetic
}

func forms() []form {
	return []form{
		{"Octal", "1.1", Octal, ReadOctal, wantOctal},
		{"Base", "1.2", Base, ReadBase, wantBase},
		{"Field", "1.3", Field, ReadField, wantField},
	}
}

func wantOctal(n, width int) (string, bool) {
	digits := big.NewInt(int64(n)).Text(8)
	if width != 8 && width != 12 || n < 0 || len(digits) > width-1 {
		return "", false
	}
	return strings.Repeat("0", width-1-len(digits)) + digits + "\x00", true
}

func wantBase(n, width int) (string, bool) {
	if width != 8 && width != 12 || width == 8 && (n >= 1<<56 || n < -1<<56) {
		return "", false
	}
	modulus := new(big.Int).Lsh(big.NewInt(1), uint(8*(width-1)))
	// Mod of math/big is the Euclidean one: never below nought.
	rest := new(big.Int).Mod(big.NewInt(int64(n)), modulus)
	first := "\x80"
	if n < 0 {
		first = "\xff"
	}
	return first + string(rest.FillBytes(make([]byte, width-1))), true
}

func wantField(n, width int) (string, bool) {
	if s, ok := wantOctal(n, width); ok {
		return s, true
	}
	return wantBase(n, width)
}

// numbers are small ones and the neighbours of all powers of two, both signs.
func numbers() []int {
	l := []int{math.MinInt, math.MinInt + 1, math.MaxInt, math.MaxInt - 1, 0o1234567, 0o12345670123, 0x0102030405060708, -0x0102030405060708}
	for n := -300; n <= 300; n++ {
		l = append(l, n)
	}
	for bit := 8; bit < 63; bit++ {
		for d := -2; d <= 2; d++ {
			l = append(l, 1<<bit+d, -1<<bit+d)
		}
	}
	return l
}

// readsAs tells a fault if read of s answers otherwise.
func readsAs(t *testing.T, f form, s string, n int, ok bool) {
	t.Helper()
	got, is := f.read(s)
	if got != n || is != ok {
		t.Errorf("%s: Read%s(%q) = %d, %v; want %d, %v", f.promise, f.name, s, got, is, n, ok)
	}
}

func TestExamples(t *testing.T) {
	if s, ok := Octal(8, 8); s != "0000010\x00" || !ok {
		t.Errorf("1.1: Octal(8, 8) = %q, %v", s, ok)
	}
	if s, ok := Octal(1<<21, 8); s != "" || ok {
		t.Errorf("1.1: Octal(1<<21, 8) = %q, %v", s, ok)
	}
	if n, ok := ReadOctal("0000008\x00"); n != 0 || ok {
		t.Errorf("1.1: ReadOctal of a digit 8 = %d, %v", n, ok)
	}
	if s, ok := Base(258, 8); s != "\x80\x00\x00\x00\x00\x00\x01\x02" || !ok {
		t.Errorf("1.2: Base(258, 8) = %q, %v", s, ok)
	}
	if n, ok := ReadBase("\x00\x00\x00\x00\x00\x00\x00\x00"); n != 0 || ok {
		t.Errorf("1.2: ReadBase of bytes 0 = %d, %v", n, ok)
	}
	if s, ok := Field(-1, 8); s != "\xff\xff\xff\xff\xff\xff\xff\xff" || !ok {
		t.Errorf("1.3: Field(-1, 8) = %q, %v", s, ok)
	}
	if n, ok := ReadField("\x80\x00\x00\x00\x00\x00\x00\x00"); n != 0 || ok {
		t.Errorf("1.3: ReadField(Base(0, 8)) = %d, %v", n, ok)
	}
}

// The last number of each form, and the next one.
func TestEdges(t *testing.T) {
	none := func(int, int) (string, bool) { return "", false }
	cases := []struct {
		f        form
		n, width int
		s        string
	}{
		{forms()[0], 0, 8, "0000000\x00"},
		{forms()[0], 0, 12, "00000000000\x00"},
		{forms()[0], 1<<21 - 1, 8, "7777777\x00"},
		{forms()[0], 1<<33 - 1, 12, "77777777777\x00"},
		{forms()[1], 0, 8, "\x80\x00\x00\x00\x00\x00\x00\x00"},
		{forms()[1], 1<<56 - 1, 8, "\x80\xff\xff\xff\xff\xff\xff\xff"},
		{forms()[1], -1 << 56, 8, "\xff\x00\x00\x00\x00\x00\x00\x00"},
		{forms()[1], math.MaxInt, 12, "\x80\x00\x00\x00\x7f\xff\xff\xff\xff\xff\xff\xff"},
		{forms()[1], math.MinInt, 12, "\xff\xff\xff\xff\x80\x00\x00\x00\x00\x00\x00\x00"},
		{forms()[2], 1<<21 - 1, 8, "7777777\x00"},
		{forms()[2], 1 << 21, 8, "\x80\x00\x00\x00\x00\x20\x00\x00"},
		{forms()[2], 1<<33 - 1, 12, "77777777777\x00"},
		{forms()[2], 1 << 33, 12, "\x80\x00\x00\x00\x00\x00\x00\x02\x00\x00\x00\x00"},
	}
	for _, c := range cases {
		if s, ok := c.f.encode(c.n, c.width); s != c.s || !ok {
			t.Errorf("%s: %s(%d, %d) = %q, %v; want %q", c.f.promise, c.f.name, c.n, c.width, s, ok, c.s)
		}
		readsAs(t, c.f, c.s, c.n, true)
	}
	beyond := []struct {
		f        form
		n, width int
	}{
		{forms()[0], 1 << 21, 8}, {forms()[0], 1 << 33, 12}, {forms()[0], -1, 8}, {forms()[0], -1, 12},
		{forms()[0], math.MinInt, 8}, {forms()[0], math.MaxInt, 12},
		{forms()[1], 1 << 56, 8}, {forms()[1], -1<<56 - 1, 8}, {forms()[1], math.MinInt, 8}, {forms()[1], math.MaxInt, 8},
		{forms()[2], 1 << 56, 8}, {forms()[2], -1<<56 - 1, 8}, {forms()[2], math.MinInt, 8}, {forms()[2], math.MaxInt, 8},
	}
	for _, c := range beyond {
		c.f.want = none
		encodesAsWanted(t, c.f, c.n, c.width)
	}
}

func encodesAsWanted(t *testing.T, f form, n, width int) (string, bool) {
	t.Helper()
	s, ok := f.encode(n, width)
	if want, is := f.want(n, width); s != want || ok != is {
		t.Errorf("%s: %s(%d, %d) = %q, %v; want %q, %v", f.promise, f.name, n, width, s, ok, want, is)
	}
	return s, ok
}

// Every form against plain arithmetic, and back.
func TestNumbers(t *testing.T) {
	for _, f := range forms() {
		for _, n := range numbers() {
			for _, width := range []int{8, 12} {
				if s, ok := encodesAsWanted(t, f, n, width); ok {
					readsAs(t, f, s, n, true)
				}
			}
		}
	}
}

// All octal fields of 8 bytes, counted up beside the numbers.
func TestAllShortOctals(t *testing.T) {
	want := []byte("0000000\x00")
	for n := range 1 << 21 {
		s, ok := Octal(n, 8)
		if s != string(want) || !ok {
			t.Fatalf("1.1: Octal(%d, 8) = %q, %v; want %q", n, s, ok, want)
		}
		if back, is := ReadField(s); back != n || !is {
			t.Fatalf("1.4: ReadField(%q) = %d, %v", s, back, is)
		}
		for i := 6; i >= 0; i-- {
			if want[i]++; want[i] <= '7' {
				break
			}
			want[i] = '0'
		}
	}
}

func TestOtherWidths(t *testing.T) {
	widths := []int{math.MinInt, -12, -8, -1, 16, 24, 264, 268, 512, math.MaxInt, 1<<32 + 8, 1<<32 + 12}
	for width := range 8 {
		widths = append(widths, width)
	}
	widths = append(widths, 9, 10, 11, 13, 14)
	for _, f := range forms() {
		for _, width := range widths {
			for _, n := range []int{0, 5, -5, 1 << 21, 1 << 40, math.MinInt, math.MaxInt} {
				if s, ok := f.encode(n, width); s != "" || ok {
					t.Errorf("%s: %s(%d, %d) = %q, %v", f.promise, f.name, n, width, s, ok)
				}
			}
		}
	}
}

func TestOtherLengths(t *testing.T) {
	for _, f := range forms() {
		for length := range 300 {
			if length == 8 || length == 12 {
				continue
			}
			readsAs(t, f, strings.Repeat("\x00", length), 0, false)
			readsAs(t, f, strings.Repeat("\xff", length), 0, false)
			if length > 0 {
				readsAs(t, f, strings.Repeat("0", length-1)+"\x00", 0, false)
				readsAs(t, f, "\x80"+strings.Repeat("\x00", length-1), 0, false)
			}
		}
	}
}

// hasWidth keeps a wrong field from being refused for its length alone.
func hasWidth(t *testing.T, s string) {
	t.Helper()
	if len(s) != 8 && len(s) != 12 {
		t.Fatalf("the test's own string %q has %d bytes", s, len(s))
	}
}

func TestWrongOctals(t *testing.T) {
	for _, s := range []string{
		"00000000", "0000000 ", "000000000000", "0000000\x01", "000000\x00\x00", "\x000000000",
		"      7\x00", "-000001\x00", "+000001\x00", "0o00007\x00", "0x00007\x00", "000_007\x00",
		"0000008\x00", "0000009\x00", "000000a\x00", "000000/\x00", "000000:\x00", "000\xff000\x00",
		// The values of these bytes would add up to a number that has a field.
		"0000018\x00", "000001/\x00", "00000000018\x00", "777776?\x00",
		"\x80\x00\x00\x00\x00\x00\x00\x07", "\xff\xff\xff\xff\xff\xff\xff\xff",
	} {
		hasWidth(t, s)
		readsAs(t, forms()[0], s, 0, false)
	}
	for _, s := range []string{"00000000", "0000008\x00", "000001/\x00", "      7\x00", "\x00\x00\x00\x00\x00\x00\x00\x00", "000000000000"} {
		hasWidth(t, s)
		readsAs(t, forms()[2], s, 0, false)
	}
}

func TestWrongBases(t *testing.T) {
	for _, s := range []string{
		"\x00\x00\x00\x00\x00\x00\x00\x01", "\x01\x00\x00\x00\x00\x00\x00\x00", "\x7f\x00\x00\x00\x00\x00\x00\x00",
		"\x81\x00\x00\x00\x00\x00\x00\x00", "\xc0\x00\x00\x00\x00\x00\x00\x00", "\xfe\xff\xff\xff\xff\xff\xff\xff",
		"0000007\x00", "00000000007\x00",
		// 2^63 and greater ones, and what would be a number below nought.
		"\x80\x00\x00\x00\x80\x00\x00\x00\x00\x00\x00\x00", "\x80\x00\x00\x01\x00\x00\x00\x00\x00\x00\x00\x00",
		"\x80\x01\x00\x00\x00\x00\x00\x00\x00\x00\x00\x01", "\x80\xff\xff\xff\xff\xff\xff\xff\xff\xff\xff\xff",
		// Less than -2^63.
		"\xff\xff\xff\xff\x7f\xff\xff\xff\xff\xff\xff\xff", "\xff\xff\xff\xfe\xff\xff\xff\xff\xff\xff\xff\xff",
		"\xff\x7f\xff\xff\xff\xff\xff\xff\xff\xff\xff\xff", "\xff\x00\x00\x00\x00\x00\x00\x00\x00\x00\x00\x00",
	} {
		hasWidth(t, s)
		readsAs(t, forms()[1], s, 0, false)
		if s[0] >= 128 {
			readsAs(t, forms()[2], s, 0, false)
		}
	}
}

// A number that has an octal field has no other one.
func TestFieldsThatFieldDoesNotReturn(t *testing.T) {
	for _, width := range []int{8, 12} {
		for _, n := range numbers() {
			s, ok := Base(n, width)
			if _, is := Octal(n, width); !ok {
				continue
			} else if is {
				readsAs(t, forms()[2], s, 0, false)
			} else {
				readsAs(t, forms()[2], s, n, true)
			}
		}
	}
}

// With any one byte of a field turned, what is read is the number whose field
// that is, or nothing.
func TestTurnedBytes(t *testing.T) {
	for _, f := range forms() {
		for _, n := range []int{0, 7, 8, 0o1234567, -1, -257, 1 << 21, 1<<33 - 1, 1 << 33, 1<<56 - 1, -1 << 56, math.MaxInt, math.MinInt} {
			for _, width := range []int{8, 12} {
				if s, ok := f.encode(n, width); ok {
					turnEachByte(t, f, s)
				}
			}
		}
	}
}

func turnEachByte(t *testing.T, f form, s string) {
	t.Helper()
	for i := range len(s) {
		for b := range 256 {
			turned := s[:i] + string([]byte{byte(b)}) + s[i+1:]
			n, ok := wantRead(f, turned)
			readsAs(t, f, turned, n, ok)
		}
	}
}

// wantRead guesses the number of s by plain arithmetic, both as octal digits
// and as binary, and holds the field of each guess against s.
func wantRead(f form, s string) (int, bool) {
	guesses := []*big.Int{new(big.Int), new(big.Int).SetBytes([]byte(s[1:])), nil}
	for i := range len(s) - 1 {
		guesses[0].Lsh(guesses[0], 3).Add(guesses[0], big.NewInt(int64(s[i]&7)))
	}
	modulus := new(big.Int).Lsh(big.NewInt(1), uint(8*(len(s)-1)))
	guesses[2] = new(big.Int).Sub(guesses[1], modulus)
	for _, g := range guesses {
		if !g.IsInt64() {
			continue
		}
		if want, ok := f.want(int(g.Int64()), len(s)); ok && want == s {
			return int(g.Int64()), true
		}
	}
	return 0, false
}

func TestReadFieldReturnsWhatFieldEncoded(t *testing.T) {
	for _, width := range []int{8, 12} {
		count := 0
		for _, n := range numbers() {
			s, ok := Field(n, width)
			if !ok {
				continue
			}
			count++
			if back, is := ReadField(s); back != n || !is {
				t.Errorf("1.4: ReadField(Field(%d, %d)) = %d, %v", n, width, back, is)
			}
		}
		if count == 0 {
			t.Errorf("1.4: no number has a field of %d bytes", width)
		}
	}
	for _, n := range numbers() {
		if _, ok := Field(n, 12); !ok {
			t.Errorf("1.3: Field(%d, 12) returns false", n)
		}
	}
}

// Strings of both lengths as the fuzzer finds them: a field is read exactly as
// the number that encodes to it.
func FuzzRead(f *testing.F) {
	for _, n := range []int{0, 8, -1, 1 << 21, 1 << 40, math.MinInt, math.MaxInt} {
		for _, width := range []int{8, 12} {
			for _, form := range forms() {
				s, _ := form.encode(n, width)
				f.Add(s)
			}
		}
	}
	f.Fuzz(func(t *testing.T, s string) {
		for _, form := range forms() {
			if len(s) == 8 || len(s) == 12 {
				n, ok := wantRead(form, s)
				readsAs(t, form, s, n, ok)
			} else {
				readsAs(t, form, s, 0, false)
			}
		}
	})
}
