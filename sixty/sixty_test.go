package sixty

import (
	"encoding/base64"
	"regexp"
	"strings"
	"testing"
)

// alphabet is written out by its rule, not by the program's own constant.
func alphabet() string {
	var b []byte
	for _, r := range []string{"AZ", "az", "09"} {
		for c := r[0]; c <= r[1]; c++ {
			b = append(b, c)
		}
	}
	return string(b) + "+/"
}

// form is that of an encoding. The last letter ahead of `==` has four unused
// bits, that ahead of `=` two.
var form = regexp.MustCompile(`\A(?:[A-Za-z0-9+/]{4})*(?:[A-Za-z0-9+/][AQgw]==|[A-Za-z0-9+/]{2}[AEIMQUYcgkosw048]=)?\z`)

// wantGet reads s by its form; encoding/base64 alone would let through ends of
// lines.
func wantGet(s string) (string, bool) {
	if !form.MatchString(s) {
		return "", false
	}
	b, err := base64.StdEncoding.Strict().DecodeString(s)
	return string(b), err == nil
}

func putsAs(t *testing.T, s, want string) {
	t.Helper()
	if got := Put(s); got != want {
		t.Errorf("3.1: Put(%.60q) of %d bytes = %.60q; want %.60q", s, len(s), got, want)
	}
}

// getsAs tells a fault if Get of s answers otherwise.
func getsAs(t *testing.T, s, want string, ok bool) {
	t.Helper()
	if got, is := Get(s); got != want || is != ok {
		t.Errorf("3.1: Get(%.60q) of %d bytes = %.60q, %v; want %.60q, %v", s, len(s), got, is, want, ok)
	}
}

// refused tells a fault if Get finds bytes in s, or answers any beside false.
func refused(t *testing.T, s string) {
	t.Helper()
	getsAs(t, s, "", false)
}

// thereAndBack tells a fault if s is not what comes back of it.
func thereAndBack(t *testing.T, s string) {
	t.Helper()
	putsAs(t, s, base64.StdEncoding.EncodeToString([]byte(s)))
	if got, ok := Get(Put(s)); got != s || !ok {
		t.Errorf("3.2: Get(Put(%.60q)) of %d bytes = %.60q, %v", s, len(s), got, ok)
	}
}

// turned calls check with s with a byte turned, put in or left out at each place.
func turned(s string, check func(s string)) {
	for i := range len(s) + 1 {
		for b := range 256 {
			c := string([]byte{byte(b)})
			check(s[:i] + c + s[i:])
			if i < len(s) {
				check(s[:i] + c + s[i+1:])
			}
		}
		if i < len(s) {
			check(s[:i] + s[i+1:])
		}
	}
}

func TestExamples(t *testing.T) {
	putsAs(t, "a", "YQ==")
	refused(t, "YR==")
}

func TestKnown(t *testing.T) {
	for s, want := range map[string]string{
		"":             "",
		"f":            "Zg==",
		"fo":           "Zm8=",
		"foo":          "Zm9v",
		"foob":         "Zm9vYg==",
		"fooba":        "Zm9vYmE=",
		"foobar":       "Zm9vYmFy",
		"\x00":         "AA==",
		"\x00\x00":     "AAA=",
		"\x00\x00\x00": "AAAA",
		"\xff":         "/w==",
		"\xff\xff":     "//8=",
		"\xff\xff\xff": "////",
		"\xfb\xef\xbe": "++++",
		"\x01":         "AQ==",
		"\x00\x01":     "AAE=",
		"\x00\x00\x01": "AAAB",
		"\x80\x00\x00": "gAAA",
		"=":            "PQ==",
		"YQ==":         "WVE9PQ==",
		"é\n":          "w6kK",
		"\xff\xfe\x00": "//4A",
	} {
		putsAs(t, s, want)
		getsAs(t, want, s, true)
	}
}

// Each of the 64 letters at each place of a group, beside noughts and beside
// its own like.
func TestLetters(t *testing.T) {
	abc := alphabet()
	if len(abc) != 64 {
		t.Fatalf("the test knows %d letters", len(abc))
	}
	for n := range 64 {
		letter := abc[n : n+1]
		for place := range 4 {
			bits := n << (6 * (3 - place))
			s := string([]byte{byte(bits >> 16), byte(bits >> 8), byte(bits)})
			want := "AAAA"[:place] + letter + "AAAA"[place+1:]
			putsAs(t, s, want)
			getsAs(t, want, s, true)
		}
		bits := n * 0o1010101
		s := string([]byte{byte(bits >> 16), byte(bits >> 8), byte(bits)})
		putsAs(t, s, strings.Repeat(letter, 4))
		getsAs(t, strings.Repeat(letter, 4), s, true)
	}
}

// Every string of one byte and every one of two, alone and behind a group.
func TestRemainders(t *testing.T) {
	for a := range 256 {
		one := string([]byte{byte(a)})
		thereAndBack(t, one)
		thereAndBack(t, "abc"+one)
		for b := range 256 {
			thereAndBack(t, one+string([]byte{byte(b)}))
		}
		thereAndBack(t, "abc"+one+"\xff")
	}
}

func TestAllLengths(t *testing.T) {
	r := uint64(11)
	var b []byte
	for range 400 {
		thereAndBack(t, string(b))
		thereAndBack(t, strings.Repeat("\xff", len(b)))
		thereAndBack(t, strings.Repeat("\x00", len(b)))
		r = r*6364136223846793005 + 1442695040888963407
		b = append(b, byte(r>>40))
	}
	for _, n := range []int{1<<16 - 1, 1 << 16, 1<<16 + 1, 1<<20 + 1} {
		thereAndBack(t, strings.Repeat("0123456789\xff", n/11+1)[:n])
	}
}

// The unused bits: of the 64 letters ahead of `==` four are right, of those
// ahead of `=` sixteen.
func TestUnusedBits(t *testing.T) {
	abc := alphabet()
	for _, before := range []string{"", "YWJj"} {
		two, one := 0, 0
		for n := range 64 {
			s := before + "Y" + abc[n:n+1] + "=="
			if want, ok := wantGet(s); n%16 == 0 {
				two++
				getsAs(t, s, want, ok)
			} else {
				refused(t, s)
			}
			s = before + "YW" + abc[n:n+1] + "="
			if want, ok := wantGet(s); n%4 == 0 {
				one++
				getsAs(t, s, want, ok)
			} else {
				refused(t, s)
			}
		}
		if two != 4 || one != 16 {
			t.Errorf("the test met %d and %d letters", two, one)
		}
	}
}

func TestLengths(t *testing.T) {
	for _, s := range []string{
		"Y", "YW", "YWJ", "YQ", "YWI", "YQ=", "YQ===", "YWI==", "YWJj=", "YWJj==", "YWJj===",
		"YWJjY", "YWJjYQ", "YWJjYWI", "YWJjYQ=", "A", "AA", "AAA", "AAAAA", "AAAAAA", "AAAAAAA",
	} {
		refused(t, s)
	}
	for n := range 200 {
		if s := strings.Repeat("A", n); n%4 == 0 {
			getsAs(t, s, strings.Repeat("\x00", n/4*3), true)
		} else {
			refused(t, s)
		}
	}
}

func TestFillers(t *testing.T) {
	for _, s := range []string{
		"=", "==", "===", "====", "Y===", "YQ=Q", "Y=Q=", "=YQ=", "==YQ", "=YWI", "Y=WI", "YW=I", "YW=j", "=AAA", "=AA=", "A=A=", "A==A", "==A=", "A===",
		"YQ==YQ==", "YQ==YWJj", "YWI=YWJj", "YWI=YWI=", "YWJj====", "YWJjY===", "YWJj=YQ=", "YWJj==YQ", "YQ======", "AAAA====", "========",
		"YQ==\x00\x00\x00\x00", "YQ==    ", "YQ= =", "YQ =", "YQ＝", "YQ%3D%3D",
	} {
		refused(t, s)
	}
	for n := range 20 {
		if n > 0 {
			refused(t, strings.Repeat("=", n))
			refused(t, "YWJj"+strings.Repeat("=", n))
		}
		if n != 2 {
			refused(t, "YQ"+strings.Repeat("=", n))
		}
		if n != 1 {
			refused(t, "YWI"+strings.Repeat("=", n))
		}
	}
}

// Bytes that other forms of Base64 know, and bytes that none does.
func TestNoLetters(t *testing.T) {
	for _, s := range []string{
		"-_-_", "____", "----", ",,,,", "....", "YW.j", "YW!j", "YWJj\n", "\nYWJj", "YWJjYW\nJj", "YW\nJj\r\n\n", "YQ==\n", "YQ==\r\n", "YQ\n==", "\n\n\n\n", "\r\n\r\n",
		"YW J", " YWJ", "YWJ ", "    ", "\t\t\t\t", "\x00\x00\x00\x00", "\xff\xff\xff\xff", "YWJ\x00", "YWJ\xff", "é é", "éé", "＋／Ａ", "@[`{", "/:AA", "*WJj",
	} {
		refused(t, s)
	}
	abc := alphabet()
	for b := range 256 {
		c := string([]byte{byte(b)})
		if strings.Contains(abc+"=", c) {
			continue
		}
		refused(t, strings.Repeat(c, 4))
		for _, s := range []string{"AAAA", "AAA=", "AA==", "YWJjYWJj", "YWJjYQ=="} {
			for i := range len(strings.TrimRight(s, "=")) {
				refused(t, s[:i]+c+s[i+1:])
			}
		}
	}
}

// With a byte turned, put in or left out, what is read is what the form tells.
func TestTurnedBytes(t *testing.T) {
	for _, s := range []string{"", "YQ==", "YWI=", "YWJj", "YWJjYQ==", "YWJjYWI=", "YWJjYWJj", "AA==", "AAA=", "////", "/w==", "//8=", "+/+/+/+="} {
		turned(s, func(s string) {
			want, ok := wantGet(s)
			getsAs(t, s, want, ok)
		})
	}
}

// All strings of up to six of these bytes, alone and behind a group. Of the
// letters the unused bits are none, some or all 0.
func TestShortStrings(t *testing.T) {
	all := []string{""}
	for i := 0; i < len(all); i++ {
		s := all[i]
		for _, s := range []string{s, "YWJj" + s} {
			want, ok := wantGet(s)
			getsAs(t, s, want, ok)
		}
		if len(s) == 6 {
			continue
		}
		for _, c := range "AEQ/=\n" {
			all = append(all, s+string(c))
		}
	}
}

// No string but Put of the bytes is read as these bytes.
func TestOneEncoding(t *testing.T) {
	for _, s := range []string{"a", "ab", "abc", "abcd", "\x00", "\x00\x00", "\xff", "\xff\xff"} {
		turned(Put(s), func(other string) {
			if got, ok := Get(other); ok && Put(got) != other {
				t.Errorf("3.1: Get(%q) = %q, whose Put is %q", other, got, Put(got))
			}
		})
	}
}

func FuzzGet(f *testing.F) {
	for _, s := range []string{"", "YQ==", "YR==", "YWI=", "YWJj", "Y===", "YWJj\n", "YQ==YQ==", "+/+/+/+="} {
		f.Add(s)
	}
	f.Fuzz(func(t *testing.T, s string) {
		want, ok := wantGet(s)
		getsAs(t, s, want, ok)
		thereAndBack(t, s)
	})
}
