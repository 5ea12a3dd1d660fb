package escape

import (
	"fmt"
	"regexp"
	"strings"
	"testing"
)

// wantPut encodes by the words of the rule, with fmt for the digits.
func wantPut(s string) string {
	var b strings.Builder
	for _, c := range []byte(s) {
		if c < 33 || c > 126 || c == '%' || c == '=' {
			fmt.Fprintf(&b, "%%%02X", c)
		} else {
			fmt.Fprintf(&b, "%c", c)
		}
	}
	return b.String()
}

// form is that of an encoding. Of the bytes with a mark there are 0 to 32 (two
// rows of sixteen, and 20), 25 and 3D for `%` and `=`, and 7F to FF.
var form = regexp.MustCompile(`\A(?:[!-$&-<>-~]|%(?:[01][0-9A-F]|20|25|3D|7F|[89A-F][0-9A-F]))*\z`)

// coded is one byte of an encoding.
var coded = regexp.MustCompile(`%..`)

// wantGet reads s by its form.
func wantGet(s string) (string, bool) {
	if !form.MatchString(s) {
		return "", false
	}
	return coded.ReplaceAllStringFunc(s, func(m string) string {
		var c byte
		if _, err := fmt.Sscanf(m, "%%%02X", &c); err != nil {
			panic(err)
		}
		return one(c)
	}), true
}

func one(c byte) string { return string([]byte{c}) }

func putsAs(t *testing.T, s, want string) {
	t.Helper()
	if got := Put(s); got != want {
		t.Errorf("4.1: Put(%.60q) of %d bytes = %.60q; want %.60q", s, len(s), got, want)
	}
}

// getsAs tells a fault if Get of s answers otherwise.
func getsAs(t *testing.T, s, want string, ok bool) {
	t.Helper()
	if got, is := Get(s); got != want || is != ok {
		t.Errorf("4.1: Get(%.60q) of %d bytes = %.60q, %v; want %.60q, %v", s, len(s), got, is, want, ok)
	}
}

// refused tells a fault if Get finds bytes in s, or answers any beside false.
func refused(t *testing.T, s string) {
	t.Helper()
	getsAs(t, s, "", false)
}

// thereAndBack tells a fault if s is not what comes back of it.
func thereAndBack(t *testing.T, s string) {
	t.Helper()
	putsAs(t, s, wantPut(s))
	if got, ok := Get(Put(s)); got != s || !ok {
		t.Errorf("4.2: Get(Put(%.60q)) of %d bytes = %.60q, %v", s, len(s), got, ok)
	}
}

// turned calls check with s with a byte turned, put in or left out at each place.
func turned(s string, check func(s string)) {
	for i := range len(s) + 1 {
		for b := range 256 {
			check(s[:i] + one(byte(b)) + s[i:])
			if i < len(s) {
				check(s[:i] + one(byte(b)) + s[i+1:])
			}
		}
		if i < len(s) {
			check(s[:i] + s[i+1:])
		}
	}
}

func TestExamples(t *testing.T) {
	putsAs(t, "a=b", "a%3Db")
	refused(t, "%41")
	putsAs(t, "A", "A")
}

func TestKnown(t *testing.T) {
	for s, want := range map[string]string{
		"":                             "",
		"a":                            "a",
		"user.mime_type":               "user.mime_type",
		"dir/file name":                "dir/file%20name",
		"100%":                         "100%25",
		"%%":                           "%25%25",
		"%41":                          "%2541",
		"%3D":                          "%253D",
		"=":                            "%3D",
		"==":                           "%3D%3D",
		"\x00":                         "%00",
		"\x1f":                         "%1F",
		" ":                            "%20",
		"!":                            "!",
		"$%&":                          "$%25&",
		"<=>":                          "<%3D>",
		"~":                            "~",
		"\x7f":                         "%7F",
		"\x80":                         "%80",
		"\xab\xcd\xef":                 "%AB%CD%EF",
		"\xff":                         "%FF",
		"\t\n\r":                       "%09%0A%0D",
		"é":                            "%C3%A9",
		"日":                            "%E6%97%A5",
		"\xed\xa0\x80":                 "%ED%A0%80",
		"+ +":                          "+%20+",
		`"#'()*,-./:;?@[\]^_` + "`{|}": `"#'()*,-./:;?@[\]^_` + "`{|}",
		"0123456789ABCDEFabcdef":       "0123456789ABCDEFabcdef",
	} {
		putsAs(t, s, want)
		getsAs(t, want, s, true)
	}
}

// Each of the 256 bytes in both forms, of which one is wrong, alone and with
// others around it.
func TestEachByte(t *testing.T) {
	selves := 0
	for b := range 256 {
		self := one(byte(b))
		right, wrong := fmt.Sprintf("%%%02X", b), self
		if 33 <= b && b <= 126 && b != 37 && b != 61 {
			right, wrong = wrong, right
			selves++
		}
		putsAs(t, self, right)
		for _, x := range [][4]string{
			{"", "", "", ""}, {"a", "", "a", ""}, {"", "b", "", "b"},
			{" ", "=", "%20", "%3D"}, {"x\xff", "~", "x%FF", "~"},
		} {
			before, behind, codeBefore, codeBehind := x[0], x[1], x[2], x[3]
			putsAs(t, before+self+behind, codeBefore+right+codeBehind)
			getsAs(t, codeBefore+right+codeBehind, before+self+behind, true)
			refused(t, codeBefore+wrong+codeBehind)
		}
	}
	if selves != 92 {
		t.Errorf("the test met %d bytes that are encoded as themselves", selves)
	}
}

// Every two bytes behind a mark: of the 65536 pairs 164 are the digits of a
// byte that isn't encoded as itself.
func TestDigits(t *testing.T) {
	read := 0
	for a := range 256 {
		for b := range 256 {
			s := "%" + one(byte(a)) + one(byte(b))
			want, ok := wantGet(s)
			getsAs(t, s, want, ok)
			getsAs(t, "x"+s+"%20", ifOk("x"+want+" ", ok), ok)
			if ok {
				read++
			}
		}
	}
	if read != 164 {
		t.Errorf("4.1: Get reads %d pairs of digits; want 164", read)
	}
}

func ifOk(s string, ok bool) string {
	if !ok {
		return ""
	}
	return s
}

// The edges of what is encoded as itself.
func TestEdges(t *testing.T) {
	putsAs(t, "\x1f !\"", "%1F%20!\"")
	putsAs(t, "}~\x7f\x80", "}~%7F%80")
	putsAs(t, "$%&<=>", "$%25&<%3D>")
	for _, s := range []string{"%1F", "%20", "%25", "%3D", "%7F", "%80", "%00", "%FF"} {
		want, ok := wantGet(s)
		if !ok {
			t.Fatalf("the test doesn't read %q", s)
		}
		getsAs(t, s, want, true)
	}
	for _, s := range []string{"%21", "%22", "%24", "%26", "%2B", "%2F", "%3C", "%3E", "%40", "%41", "%5F", "%61", "%7D", "%7E", "\x1f", " ", "=", "\x7f", "\x80"} {
		refused(t, s)
	}
}

// A mark with one digit behind it or none, at the end and ahead of others.
func TestMissingDigits(t *testing.T) {
	for _, s := range []string{
		"%", "%%", "%%%", "a%", "%20%", "%2", "%3", "%0", "%F", "a%2", "%20%2", "%00%0", "%2%", "%2%20", "%%20", "%%2520", "%%25", "%%3D",
		"%a%", "%2a%", "% ", "%2 ", "%2/", "%2/0", "%2:", "%2G", "%2@", "%2g", "%.2", "%G0", "%:0", "%/0", "%@0", "%`0", "%g0",
		"%\x00\x00", "%\xff\xff", "%2\x00", "%2\xff", "%0x20", "%x20", "%u0020", "%U0020", "%+20", "%-20", "%+2", "%-2", "% 2", "%2é", "%é", "%２０", "%2_0", "%_20",
	} {
		refused(t, s)
		refused(t, "user."+s)
	}
}

func TestSmallDigits(t *testing.T) {
	for _, s := range []string{"%3d", "%7f", "%1f", "%fF", "%Ff", "%ff", "%0a", "%a0", "%aA", "%Aa", "%c3%A9", "%C3%a9", "a%3db"} {
		refused(t, s)
		want := strings.ToUpper(s)
		if s == "a%3db" {
			want = "a%3Db"
		}
		if name, ok := Get(want); !ok || Put(name) != want {
			t.Errorf("4.1: Get(%q) = %q, %v", want, name, ok)
		}
	}
}

func TestLengths(t *testing.T) {
	r := uint64(11)
	var b []byte
	for n := range 400 {
		thereAndBack(t, string(b))
		thereAndBack(t, strings.Repeat("\xff", n))
		thereAndBack(t, strings.Repeat("%", n))
		thereAndBack(t, strings.Repeat("a", n))
		r = r*6364136223846793005 + 1442695040888963407
		b = append(b, byte(r>>40))
	}
	for _, n := range []int{1<<16 - 1, 1 << 16, 1<<16 + 1, 1<<20 + 1} {
		thereAndBack(t, strings.Repeat("0123=5%789\xff", n/11+1)[:n])
		// What is wrong at the very end is found, and no byte ahead of it is
		// answered.
		long := strings.Repeat("a", n)
		for _, s := range []string{"%", "%2", "%41", "=", "\x00"} {
			refused(t, long+s)
			refused(t, s+long)
		}
	}
}

// Put of Put encodes the marks once more, and Get takes off one encoding.
func TestTwice(t *testing.T) {
	for _, s := range []string{"=", "%", "a b", "\x00\xff", "%3D"} {
		twice := Put(Put(s))
		putsAs(t, Put(s), strings.ReplaceAll(Put(s), "%", "%25"))
		getsAs(t, twice, Put(s), true)
		thereAndBack(t, twice)
	}
}

// With a byte turned, put in or left out, what is read is what the form tells.
func TestTurnedBytes(t *testing.T) {
	for _, s := range []string{"", "a", "%20", "a%3Db", "%00%7F%FF", "%25%25", "%253D", "a%C3%A9b", "x%0A", "!~"} {
		turned(s, func(s string) {
			want, ok := wantGet(s)
			getsAs(t, s, want, ok)
		})
	}
}

// All strings of up to six of these bytes.
func TestShortStrings(t *testing.T) {
	all := []string{""}
	for i := 0; i < len(all); i++ {
		s := all[i]
		want, ok := wantGet(s)
		getsAs(t, s, want, ok)
		thereAndBack(t, s)
		if len(s) == 6 {
			continue
		}
		for _, c := range "%23Dd=" {
			all = append(all, s+string(c))
		}
	}
}

// No string but Put of the bytes is read as these bytes.
func TestOneEncoding(t *testing.T) {
	for _, s := range []string{"a", "=", "a=b", "\x00", "\xff%", "é"} {
		turned(Put(s), func(other string) {
			if got, ok := Get(other); ok && Put(got) != other {
				t.Errorf("4.1: Get(%q) = %q, whose Put is %q", other, got, Put(got))
			}
		})
	}
}

func FuzzGet(f *testing.F) {
	for _, s := range []string{"", "a=b", "a%3Db", "%41", "%3d", "%", "%2", "%GG", "%00%7F%FF", " "} {
		f.Add(s)
	}
	f.Fuzz(func(t *testing.T, s string) {
		want, ok := wantGet(s)
		getsAs(t, s, want, ok)
		thereAndBack(t, s)
	})
}
