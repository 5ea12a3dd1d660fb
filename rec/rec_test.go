package rec

import (
	"math"
	"slices"
	"strconv"
	"strings"
	"testing"

	"gripsack/api"
)

// encodes tells whether code is the encoding of a valid record, by the words of
// the chapter, and of which one.
func encodes(code string) (r api.Rec, is bool) {
	if len(code) > api.MaxPax || least(code) != len(code) {
		return api.Rec{}, false
	}
	body, ok := strings.CutPrefix(code, strconv.Itoa(len(code))+" ")
	if !ok || !strings.HasSuffix(body, "\n") {
		return api.Rec{}, false
	}
	i := 0
	for i < len(body)-1 && body[i] != '=' && body[i] != 0 {
		i++
	}
	if i < 1 || i > api.MaxName || body[i] != '=' {
		return api.Rec{}, false
	}
	return api.Rec{Key: body[:i], Value: body[i+1 : len(body)-1]}, true
}

// least returns the least number that tells the length of an encoding with the
// same bytes behind its number, or -1 if there are none.
func least(code string) int {
	space := strings.IndexByte(code, ' ')
	if space < 0 {
		return -1
	}
	rest := len(code) - space
	for digits := 1; ; digits++ {
		if n := rest + digits; len(strconv.Itoa(n)) == digits {
			return n
		}
	}
}

// want is what Get answers.
func want(s string, at int) (r api.Rec, next int, e api.Errno) {
	switch {
	case at < 0 || at > len(s):
		return api.Rec{}, 0, api.ErrArg
	case at == len(s):
		return api.Rec{}, 0, api.ErrMore
	}
	for next := at + 1; next <= len(s); next++ {
		if r, is := encodes(s[at:next]); is {
			return r, next, api.OK
		}
	}
	return api.Rec{}, 0, api.ErrForm
}

// gets tells a fault if Get answers otherwise.
func gets(t *testing.T, s string, at int, r api.Rec, next int, e api.Errno) {
	t.Helper()
	gotR, gotNext, gotE := Get(s, at)
	if gotR != r || gotNext != next || gotE != e {
		t.Errorf("6.2: Get(%.60q of %d bytes, %d) = %.60q, %d, %d; want %.60q, %d, %d", s, len(s), at, gotR, gotNext, gotE, r, next, e)
	}
}

// agrees tells a fault if Get answers otherwise than by the words.
func agrees(t *testing.T, s string, at int) {
	t.Helper()
	r, next, e := want(s, at)
	gets(t, s, at, r, next, e)
}

// refuses tells a fault if s is read as a record, alone or between other bytes.
func refuses(t *testing.T, s string) {
	t.Helper()
	for _, before := range []string{"", "6 a=b\n", "x"} {
		for _, behind := range []string{"", "6 a=b\n", "\n", "x"} {
			if before+s+behind != "" && s != "" {
				gets(t, before+s+behind, len(before), api.Rec{}, 0, api.ErrForm)
			}
		}
	}
}

// alls tells a fault if All answers otherwise.
func alls(t *testing.T, s string, l []api.Rec, e api.Errno) {
	t.Helper()
	got, gotE := All(s)
	if !slices.Equal(got, l) || gotE != e {
		t.Errorf("6.2: All(%.60q of %d bytes) = %d records, %.60q, %d; want %d, %d", s, len(s), len(got), got, gotE, len(l), e)
	}
}

// puts tells a fault if r is not valid, or is encoded or read otherwise.
func puts(t *testing.T, r api.Rec, code string) {
	t.Helper()
	if !May(r) {
		t.Errorf("6.1: May(%.60q) is false", r)
	}
	if got := Put(r); got != code {
		t.Errorf("6.1: Put(%.60q) = %.60q of %d bytes; want %.60q of %d", r, got, len(got), code, len(code))
	}
	for _, before := range []string{"", "x", "6 a=b\n", "1", " "} {
		for _, behind := range []string{"", "x", "6 a=b\n", "\n", "0", "\x00"} {
			gets(t, before+code+behind, len(before), r, len(before+code), api.OK)
		}
	}
	alls(t, code, []api.Rec{r}, api.OK)
	if got := Join([]api.Rec{r}); got != code {
		t.Errorf("6.2: Join of %.60q = %.60q", r, got)
	}
}

// invalid tells a fault if r is valid, or what its encoding would be is read.
func invalid(t *testing.T, r api.Rec) {
	t.Helper()
	if May(r) {
		t.Errorf("6.1: May(%.60q), a key of %d and a value of %d bytes, is true", r, len(r.Key), len(r.Value))
	}
	if got := Put(r); got != "" {
		t.Errorf("6.1: Put(%.60q) = %.60q; it is not valid", r, got)
	}
	if got := Join([]api.Rec{r, r}); got != "" {
		t.Errorf("6.2: Join of %.60q = %.60q; it is not valid", r, got)
	}
}

// code writes r by hand, valid or not.
func code(r api.Rec) string {
	tail := " " + r.Key + "=" + r.Value + "\n"
	return strconv.Itoa(least(tail)) + tail
}

func vs(n int) string { return strings.Repeat("v", n) }

func TestExamples(t *testing.T) {
	if May(api.Rec{Key: "a=b"}) {
		t.Error("6.1: May of the key a=b is true")
	}
	if got := Put(api.Rec{Key: "a", Value: "b"}); got != "6 a=b\n" {
		t.Errorf("6.1: Put of a, b = %q", got)
	}
	gets(t, "06 a=b\n", 0, api.Rec{}, 0, api.ErrForm)
	alls(t, "", nil, api.OK)
	if got := Join(nil); got != "" {
		t.Errorf("6.2: Join of none = %q", got)
	}
}

func TestKnown(t *testing.T) {
	for _, c := range []struct {
		key, value, code string
	}{
		{"a", "", "5 a=\n"}, // an empty value
		{"a", "b", "6 a=b\n"},
		{"uid", "1000", "12 uid=1000\n"},
		{"path", "a/b", "12 path=a/b\n"},
		{"mtime", "-1.5", "14 mtime=-1.5\n"},
		{"hdrcharset", "BINARY", "21 hdrcharset=BINARY\n"},
		{"SCHILY.xattr.user.a%3Db", "1", "29 SCHILY.xattr.user.a%3Db=1\n"},
		{"a", "=", "6 a==\n"},
		{"a", "b=c", "8 a=b=c\n"},
		{"a", "==", "7 a===\n"},
		{"a", "\n", "6 a=\n\n"},
		{"a", "\n\n", "7 a=\n\n\n"},
		{"a", "\x00", "6 a=\x00\n"},
		{"a", "b\x00c\n=", "11 a=b\x00c\n=\n"},
		{"a", "6 a=b\n", "12 a=6 a=b\n\n"}, // a record in a value
		{"6 a", "b", "8 6 a=b\n"},
		{" ", "", "5  =\n"},
		{" a ", " b ", "11  a = b \n"},
		{"\n", "\n", "6 \n=\n\n"},
		{"5", "5", "6 5=5\n"},
		{"\xff", "\xfe", "6 \xff=\xfe\n"},
		{"\xc3\xa4", "\xe2\x82\xac", "9 \xc3\xa4=\xe2\x82\xac\n"}, // bytes are counted
	} {
		puts(t, api.Rec{Key: c.key, Value: c.value}, c.code)
	}
}

// Where one digit more makes the number longer: at the first edge of each row
// two numbers hold, and the least one is written; behind it there is a number
// that no encoding has.
func TestDigits(t *testing.T) {
	for _, c := range []struct{ value, length int }{
		{3, 8}, {4, 9}, {5, 11}, {6, 12},
		{92, 98}, {93, 99}, {94, 101}, {95, 102},
		{991, 998}, {992, 999}, {993, 1001}, {994, 1002},
		{9990, 9998}, {9991, 9999}, {9992, 10001}, {9993, 10002},
	} {
		r := api.Rec{Key: "k", Value: vs(c.value)}
		tail := " k=" + r.Value + "\n"
		puts(t, r, strconv.Itoa(c.length)+tail)
		for n := c.length - 4; n <= c.length+4; n++ {
			// With a byte 10 behind, a number that is greater may be right.
			wrong := strconv.Itoa(n) + tail
			agrees(t, wrong+"\n\n\n\n\n\n", 0)
			if n != c.length {
				gets(t, wrong, 0, api.Rec{}, 0, api.ErrForm)
				gets(t, wrong+"xxxxxx", 0, api.Rec{}, 0, api.ErrForm)
			}
		}
		refuses(t, "0"+strconv.Itoa(c.length)+tail)
		refuses(t, "0"+strconv.Itoa(c.length+1)+tail)
	}
	// 10, 100, 1000 and 10000 would be right, but for being the greater ones.
	for digits, value := range []int{2: 4, 3: 93, 4: 992, 5: 9991} {
		if digits < 2 {
			continue
		}
		s := "1" + strings.Repeat("0", digits-1) + " k=" + vs(value) + "\n"
		if strconv.Itoa(len(s)) != s[:digits] {
			t.Fatalf("the test writes %q ahead of %d bytes", s[:digits], len(s))
		}
		refuses(t, s)
	}
}

// Every length up to some thousands.
func TestLengths(t *testing.T) {
	text := vs(3000)
	for n := range len(text) {
		for _, key := range []string{"k", "key", strings.Repeat("k", 255)} {
			r := api.Rec{Key: key, Value: text[:n]}
			s := Put(r)
			if got, is := encodes(s); !is || got != r {
				t.Fatalf("6.1: Put of %d and %d bytes = %.20q of %d bytes", len(key), n, s, len(s))
			}
			gets(t, s, 0, r, len(s), api.OK)
		}
	}
}

func TestKeys(t *testing.T) {
	for n := range 256 {
		c := string([]byte{byte(n)})
		for _, key := range []string{c, c + "k", "k" + c, "k" + c + "k", strings.Repeat("k", 254) + c} {
			r := api.Rec{Key: key, Value: "v"}
			switch n {
			case 0:
				invalid(t, r)
				refuses(t, code(r))
			case '=':
				// What is written is the encoding of another key, or of an empty one.
				invalid(t, r)
				agrees(t, code(r), 0)
			default:
				puts(t, r, code(r))
			}
		}
	}
	for _, n := range []int{1, 2, 254, 255, 256, 257, 512, 1 << 16, 1 << 20} {
		for _, c := range []string{"k", " ", "9", "\xff"} {
			for _, value := range []string{"", "v", "=", "a=b", "\n"} {
				r := api.Rec{Key: strings.Repeat(c, n), Value: value}
				if n <= api.MaxName {
					puts(t, r, code(r))
					continue
				}
				invalid(t, r)
				refuses(t, code(r))
			}
		}
	}
	for _, value := range []string{"", "v", "=", "\n", "a=b"} {
		invalid(t, api.Rec{Value: value})
		refuses(t, code(api.Rec{Value: value}))
	}
}

// Encodings of MaxPax bytes, and of one less or more.
func TestMost(t *testing.T) {
	for _, key := range []string{"k", "key", strings.Repeat("k", 254), strings.Repeat("k", 255)} {
		most := api.MaxPax - len("65536 =\n") - len(key)
		for n := most - 3; n <= most+3; n++ {
			r := api.Rec{Key: key, Value: vs(n)}
			s := code(r)
			if len(s) != api.MaxPax+n-most {
				t.Fatalf("the test writes %d bytes", len(s))
			}
			if n <= most {
				puts(t, r, s)
				continue
			}
			invalid(t, r)
			refuses(t, s)
			alls(t, s, nil, api.ErrLimit)
		}
	}
	for _, n := range []int{99980, 99989, 99990, 99991, 99999, 100000, 1 << 20, 1 << 24} {
		r := api.Rec{Key: "k", Value: vs(n)}
		invalid(t, r)
		gets(t, code(r), 0, api.Rec{}, 0, api.ErrForm)
	}
}

func TestPlaces(t *testing.T) {
	r := api.Rec{Key: "a", Value: "b"}
	s := "6 a=b\n5 c=\n"
	gets(t, s, 0, r, 6, api.OK)
	gets(t, s, 6, api.Rec{Key: "c"}, 11, api.OK)
	gets(t, s, 11, api.Rec{}, 0, api.ErrMore)
	for _, at := range []int{1, 2, 3, 4, 5, 7, 8, 9, 10} {
		gets(t, s, at, api.Rec{}, 0, api.ErrForm)
	}
	for _, at := range []int{-1, -6, -11, 12, 17, math.MinInt, math.MinInt + 1, math.MaxInt - 5, math.MaxInt, math.MinInt32, math.MaxInt32, 1 << 32, -1 << 32} {
		gets(t, s, at, api.Rec{}, 0, api.ErrArg)
		gets(t, "", at, api.Rec{}, 0, api.ErrArg)
		gets(t, "x", at, api.Rec{}, 0, api.ErrArg)
	}
	gets(t, "", 0, api.Rec{}, 0, api.ErrMore)
	gets(t, "", 1, api.Rec{}, 0, api.ErrArg)
	gets(t, "x", 1, api.Rec{}, 0, api.ErrMore)
	gets(t, "x", 2, api.Rec{}, 0, api.ErrArg)
	// A record may begin within another one.
	gets(t, "16 a=b\n", 1, r, 7, api.OK)
	gets(t, "12 a=6 a=b\n\n", 5, r, 11, api.OK)
	gets(t, "12 a=6 a=b\n\n", 0, api.Rec{Key: "a", Value: "6 a=b\n"}, 12, api.OK)
}

func TestWrong(t *testing.T) {
	for _, s := range []string{
		"06 a=b\n", "07 a=b\n", "00006 a=b\n", "000008 a=b\n", "011 a=bcdef\n", "000000000000000000000000000000006 a=b\n", // leading zeros
		"+6 a=b\n", "+7 a=b\n", "-6 a=b\n", "-7 a=b\n", "--6 a=b\n", // signs
		"a=b\n", "x a=b\n", " a=b\n", " 6 a=b\n", "= a=b\n", "\n6 a=b\n", "\x006 a=b\n", "x6 a=b\n", // no number
		"6x a=b\n", "6_ a=b\n", "1_0 a=bcd\n", "6. a=b\n", "6.0 a=b\n", "6e0 a=b\n", "0x7 a=b\n", "0b1000 a=b\n", "6\x00 a=b\n", "\xd9\xa6 a=b\n",
		"6", "6a=b\n", "6\ta=b\n", "6\na=b\n", "6\x00a=b\n", "6=a=b\n", "6=b\n", "66666", "666666", // no space
		"0 a=b\n", "1 a=b\n", "2 a=b\n", "3 a=b\n", "4 a=b\n", "5 a=b\n", // too small
		"0 ", "1 ", "2 ", "0 \n", "2 \n", "3 \n", "0 =\n", "4 =\n", "-0 a=b\n",
		"99 a=b\n", "100 a=b\n", "999 a=b\n", "65536 a=b\n", "65537 a=b\n", "99999 a=b\n", "100000 a=b\n", // too large
		"4294967302 a=b\n", "9223372036854775807 a=b\n", "9223372036854775808 a=b\n", "18446744073709551616 a=b\n", "18446744073709551622 a=b\n", "99999999999999999999999999 a=b\n",
		"10 a=bcde\n", "100 k=" + vs(93) + "\n",
		"5 ab\n", "6 abc\n", "6 a:b\n", "3 \n", "5 a\x00\n", // no `=`
		"4 =\n", "5 =a\n", "5 ==\n", "6 =ab\n", "6 =a=\n", "4  \n", // an empty key
		"5 \x00=\n", "7 a\x00=b\n", "7 \x00a=b\n", "8 a\x00b=\n", // a key with a byte 0
		"6 a=bc", "6 a=b\x00", "6 a=b ", "6 a=b\r", "6 a=b\xff", "5 a=b", "5 a==", // another byte last
	} {
		for _, more := range []string{"", "z", "\n", "6 a=b\n", " 6 a=b\n"} {
			agrees(t, s+more, 0)
			agrees(t, "6 a=b\n"+s+more, 6)
		}
		gets(t, s, 0, api.Rec{}, 0, api.ErrForm)
		alls(t, s, nil, api.ErrForm)
		alls(t, "6 a=b\n"+s, nil, api.ErrForm)
	}
	// These stay wrong, whatever follows.
	for _, s := range []string{"06 a=b\n", "+7 a=b\n", "-6 a=b\n", "x a=b\n", " 6 a=b\n", "6a=b\n", "5 a=b\n", "4 =\n", "5 =a\n", "5 \x00=\n", "5 ab\n", "6 a=b\x00", "10 a=bcde\n", "0 a=b\n", "9223372036854775808 a=b\n"} {
		refuses(t, s)
	}
}

// A record that ends too early, at each of its bytes.
func TestCut(t *testing.T) {
	for _, r := range []api.Rec{{Key: "a"}, {Key: "a", Value: "b"}, {Key: "path", Value: "x/y\n\n\n"}, {Key: "k", Value: vs(93)}, {Key: strings.Repeat("k", 255), Value: vs(300)}} {
		s := Put(r)
		for n := 1; n < len(s); n++ {
			gets(t, s[:n], 0, api.Rec{}, 0, api.ErrForm)
			gets(t, "6 a=b\n"+s[:n], 6, api.Rec{}, 0, api.ErrForm)
			alls(t, s[:n], nil, api.ErrForm)
			alls(t, s+s[:n], nil, api.ErrForm)
		}
	}
}

// All short strings out of the bytes that the form is made of.
func TestShortStrings(t *testing.T) {
	signs := "56 a=\n\x000"
	met := 0
	var all func(s string)
	all = func(s string) {
		agrees(t, s, 0)
		if _, _, e := Get(s, 0); e == api.OK {
			met++
		}
		if len(s) < 6 {
			for i := range len(signs) {
				all(s + signs[i:i+1])
			}
		}
	}
	all("")
	// A key is one of 6 bytes (not `=` or 0), or two of them with no value:
	// `5 k=` in strings of 5 bytes and, with any of the 8 behind, of 6; then
	// `6 k=v` and `6 kk=` in strings of 6.
	if met != 6+6*8+6*8+6*6 {
		t.Errorf("6.2: Get answers OK for %d strings", met)
	}
}

// Each byte of some records turned into each other one, left out, or doubled.
func TestTurned(t *testing.T) {
	for _, r := range []api.Rec{{Key: "a"}, {Key: "a", Value: "b"}, {Key: "a", Value: "bcde"}, {Key: "a", Value: "bcdef"}, {Key: "uid", Value: "1=\n\x00"}, {Key: "k", Value: vs(93)}, {Key: "k", Value: vs(94)}} {
		s := Put(r)
		for i := range len(s) {
			for _, more := range []string{"", "x", "\n", "6 a=b\n"} {
				agrees(t, s[:i]+s[i+1:]+more, 0)
				agrees(t, s[:i+1]+s[i:]+more, 0)
				for c := range 256 {
					agrees(t, s[:i]+string([]byte{byte(c)})+s[i+1:]+more, 0)
				}
			}
		}
	}
}

func TestAll(t *testing.T) {
	a, c, n := api.Rec{Key: "a", Value: "b"}, api.Rec{Key: "c"}, api.Rec{Key: "a", Value: "6 a=b\n"}
	alls(t, "6 a=b\n", []api.Rec{a}, api.OK)
	alls(t, "6 a=b\n5 c=\n", []api.Rec{a, c}, api.OK)
	alls(t, "5 c=\n6 a=b\n", []api.Rec{c, a}, api.OK)
	alls(t, "6 a=b\n6 a=b\n5 c=\n6 a=b\n", []api.Rec{a, a, c, a}, api.OK)
	alls(t, "12 a=6 a=b\n\n5 c=\n", []api.Rec{n, c}, api.OK)
	for _, s := range []string{"x", "\n", "\x00", " ", "6 a=b", "6", "07 a=b\n"} {
		alls(t, s, nil, api.ErrForm)
		alls(t, "6 a=b\n"+s, nil, api.ErrForm)
		alls(t, "6 a=b\n5 c=\n"+s, nil, api.ErrForm)
		alls(t, "6 a=b\n"+s+"5 c=\n", nil, api.ErrForm)
		alls(t, s+"6 a=b\n", nil, api.ErrForm)
	}
}

// MaxPax bytes of records, of other bytes, and one more.
func TestAllLimit(t *testing.T) {
	small := strings.Repeat("6 a=b\n", 10000)
	rest := api.MaxPax - len(small)
	last := api.Rec{Key: "k", Value: vs(rest - len("5536 k=\n"))}
	s := small + Put(last)
	if len(s) != api.MaxPax {
		t.Fatalf("the test writes %d bytes", len(s))
	}
	many := append(slices.Repeat([]api.Rec{{Key: "a", Value: "b"}}, 10000), last)
	alls(t, s, many, api.OK)
	alls(t, s+"5 a=\n", nil, api.ErrLimit)
	alls(t, s+"x", nil, api.ErrLimit)
	alls(t, s[:len(s)-1], nil, api.ErrForm)
	alls(t, s[:len(s)-1]+"x", nil, api.ErrForm)
	// The limit goes ahead of the form.
	for _, c := range []string{"x", "6", " ", "\x00", "\n"} {
		alls(t, strings.Repeat(c, api.MaxPax), nil, api.ErrForm)
		alls(t, strings.Repeat(c, api.MaxPax+1), nil, api.ErrLimit)
		alls(t, strings.Repeat(c, 1<<20), nil, api.ErrLimit)
	}
	// Get has no such limit.
	gets(t, s+"5 a=\n", len(s), api.Rec{Key: "a"}, len(s)+5, api.OK)
	gets(t, strings.Repeat("x", 1<<20)+"5 a=\nx", 1<<20, api.Rec{Key: "a"}, 1<<20+5, api.OK)
	// Nor has Join.
	if got := Join(append(many, many...)); got != s+s {
		t.Errorf("6.2: Join of %d records has %d bytes; want %d", 2*len(many), len(got), 2*len(s))
	}
}

func TestJoin(t *testing.T) {
	a, c := api.Rec{Key: "a", Value: "b"}, api.Rec{Key: "c"}
	none, sign := api.Rec{Value: "x"}, api.Rec{Key: "a=b"}
	long := api.Rec{Key: "a", Value: vs(api.MaxPax)}
	for _, x := range []struct {
		l    []api.Rec
		want string
	}{
		{[]api.Rec{}, ""}, {[]api.Rec{a}, "6 a=b\n"}, {[]api.Rec{a, c}, "6 a=b\n5 c=\n"}, {[]api.Rec{c, a, c}, "5 c=\n6 a=b\n5 c=\n"},
		{[]api.Rec{none}, ""}, {[]api.Rec{none, a, sign, c, long}, "6 a=b\n5 c=\n"}, {[]api.Rec{a, none, a}, "6 a=b\n6 a=b\n"},
	} {
		given := slices.Clone(x.l)
		if got := Join(x.l); got != x.want {
			t.Errorf("6.2: Join of %.60q = %q; want %q", x.l, got, x.want)
		}
		if !slices.Equal(given, x.l) {
			t.Errorf("R3: Join turns %.60q into %.60q", given, x.l)
		}
	}
}

// records returns n records of mixed lengths and bytes.
func records(n int, seed uint64) []api.Rec {
	var l []api.Rec
	random := func(most int) int {
		seed = seed*6364136223846793005 + 1442695040888963407
		return int(seed>>33) % most
	}
	text := func(n int) string {
		b := make([]byte, n)
		for i := range b {
			b[i] = byte(random(256))
		}
		return string(b)
	}
	for range n {
		key := strings.NewReplacer("\x00", "", "=", "").Replace(text(1 + random(254)))
		l = append(l, api.Rec{Key: "k" + key, Value: text(random(1 << random(11)))})
	}
	return l
}

func TestBack(t *testing.T) {
	lists := [][]api.Rec{
		nil,
		{{Key: "a"}},
		{{Key: "a", Value: "b"}, {Key: "a", Value: "b"}},
		{{Key: "z"}, {Key: "a"}, {Key: "m", Value: "\n"}},
		{{Key: "k", Value: vs(93)}, {Key: "k", Value: vs(94)}, {Key: "k", Value: vs(992)}, {Key: "k", Value: vs(9991)}},
		{{Key: "a", Value: vs(65527)}},
		{{Key: strings.Repeat("k", 255)}, {Key: strings.Repeat(" ", 255), Value: "="}},
	}
	for n := range 60 {
		lists = append(lists, records(n, uint64(n)))
	}
	for _, l := range lists {
		for _, r := range l {
			if !May(r) {
				t.Fatalf("the test makes %.60q", r)
			}
		}
		s := Join(l)
		if len(s) > api.MaxPax {
			t.Fatalf("the test makes %d bytes", len(s))
		}
		got, e := All(s)
		if e != api.OK || !slices.Equal(got, l) {
			t.Errorf("6.3: All(Join(l)) of %d records = %d records, %d", len(l), len(got), e)
		}
		at := 0
		for _, r := range l {
			next := at + len(Put(r))
			gets(t, s, at, r, next, api.OK)
			at = next
		}
		gets(t, s, at, api.Rec{}, 0, api.ErrMore)
		again, _ := All(s)
		got = append(got, api.Rec{Key: "other"})
		got[0].Key = "other"
		if last, _ := All(s); !slices.Equal(again, l) || !slices.Equal(last, l) {
			t.Error("R3: what All has answered changes with another answer")
		}
	}
}

// The way of the chapter: all that is not a record panics inside.
func TestWay(t *testing.T) {
	for s, wrong := range map[string]bool{
		"5 a=\n": false, "6 a=b\n": false, "6 a=b\nx": false,
		"x": true, "6": true, "6a=b\n": true, "06 a=b\n": true, "x a=b\n": true, "-1 a=b\n": true, "0 a=b\n": true, "1 a=b\n": true, "5 a=b\n": true, "7 a=b\n": true, "6 a=b": true, "6 a=bc": true, "4 =\n": true, "5 ab\n": true, "10 a=bcde\n": true, "5 \x00=\n": true, "99999999999999999999 a=b\n": true,
	} {
		func() {
			defer func() {
				if _, is := recover().(noRecord); is != wrong {
					t.Errorf("6, Ways: the decoding of %q panics: %v", s, is)
				}
			}()
			decode(s)
		}()
	}
}

func FuzzGet(f *testing.F) {
	for _, s := range []string{"", "6 a=b\n", "5 a=\n6 a=b\n", "06 a=b\n", "10 a=bcde\n", "9 a=bcde\n", "11 a=bcdef\n", "x", "6 a=b", "4 =\n", "6 a=\x00\n", "-6 a=b\n", "99999999999999999999 a=b\n"} {
		f.Add(s, 0)
		f.Add("6 a=b\n"+s, 6)
	}
	f.Fuzz(func(t *testing.T, s string, at int) {
		agrees(t, s, at)
		if l, e := All(s); e == api.OK && Join(l) != s {
			t.Errorf("6.2: All(%q) = %q", s, l)
		}
	})
}
