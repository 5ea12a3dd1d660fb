package wide

import (
	"fmt"
	"math"
	"math/rand"
	"reflect"
	"regexp"
	"slices"
	"strings"
	"testing"
	"unsafe"

	"gripsack/api"
)

func part(kind, flags, mask int, who string) api.Wide {
	return api.Wide{Type: kind, Flags: flags, Mask: mask, Who: who}
}

func allow(mask int, who string) api.Wide { return part(api.NAllow, 0, mask, who) }
func deny(mask int, who string) api.Wide  { return part(api.NDeny, 0, mask, who) }

func list(l ...api.Wide) []api.Wide { return l }

// The letters, and the greatest Flags and Mask, written out.
const (
	flagLetters = "fdnpSFg"
	maskLetters = "rwaxdDtTnNcCoy"
	mostFlags   = 127
	mostMask    = 16383
)

// wantMay is what May answers, by the words of the chapter.
func wantMay(l []api.Wide) bool {
	for _, p := range l {
		if p.Type != 1 && p.Type != 2 || p.Flags < 0 || p.Flags > mostFlags || p.Mask < 0 || p.Mask > mostMask {
			return false
		}
		if len(p.Who) < 1 || len(p.Who) > 255 {
			return false
		}
		for _, b := range []byte(p.Who) {
			if b == 0 || b == ':' || b == ',' || b == 10 {
				return false
			}
		}
	}
	return len(l) <= 32
}

// wantLetters divides by 2 what wantText tells in letters.
func wantLetters(n int, letters string) string {
	s := ""
	for ; n > 0; n /= 2 {
		if n%2 == 1 {
			s += letters[:1]
		}
		letters = letters[1:]
	}
	return s
}

// wantText is what Text answers for a valid list.
func wantText(l []api.Wide) string {
	var parts []string
	for _, p := range l {
		kind := map[int]string{1: "A", 2: "D"}[p.Type]
		parts = append(parts, strings.Join([]string{kind, wantLetters(p.Flags, flagLetters), p.Who, wantLetters(p.Mask, maskLetters)}, ":"))
	}
	return strings.Join(parts, ",")
}

// In order: a letter of a row stands behind those of lesser bits.
var partForm = regexp.MustCompile(`^([AD]):(f?d?n?p?S?F?g?):([^\x00:,\n]+):(r?w?a?x?d?D?t?T?n?N?c?C?o?y?)$`)

func sumOf(s, letters string) int {
	sum, worth := 0, 1
	for _, letter := range letters {
		if strings.ContainsRune(s, letter) {
			sum += worth
		}
		worth *= 2
	}
	return sum
}

// wantParse is what Parse answers.
func wantParse(s string) ([]api.Wide, bool) {
	if s == "" {
		return nil, true
	}
	var l []api.Wide
	for _, text := range strings.Split(s, ",") {
		m := partForm.FindStringSubmatch(text)
		if m == nil {
			return nil, false
		}
		l = append(l, part(1+strings.Index("AD", m[1]), sumOf(m[2], flagLetters), sumOf(m[4], maskLetters), m[3]))
	}
	if !wantMay(l) {
		return nil, false
	}
	return l, true
}

// decider returns the index of the part that decides, or -1.
func decider(l []api.Wide, who []string, bit int) int {
	if bit < 0 || bit > 13 {
		return -1
	}
	for i, p := range l {
		for _, name := range who {
			if p.Who == name && strings.Contains(wantLetters(p.Mask, maskLetters), maskLetters[bit:bit+1]) {
				return i
			}
		}
	}
	return -1
}

// wantAllows is what Allows answers for a valid list.
func wantAllows(l []api.Wide, who []string, bit int) bool {
	i := decider(l, who, bit)
	return i >= 0 && l[i].Type == 1
}

// shown is how a list is told in a fault: cut off, as it may be long.
func shown(l []api.Wide) string {
	return fmt.Sprintf("%.900q", fmt.Sprintf("%+v", l[:min(len(l), 40)]))
}

// may tells a fault if May answers otherwise.
func may(t *testing.T, l []api.Wide, valid bool) {
	t.Helper()
	if got := May(l); got != valid {
		t.Errorf("10.1: May(%s) = %v; want %v", shown(l), got, valid)
	}
}

// mayAgrees tells a fault if May answers otherwise than by the words.
func mayAgrees(t *testing.T, l []api.Wide) bool {
	t.Helper()
	valid := wantMay(l)
	may(t, l, valid)
	return valid
}

// wrong tells a fault if l is valid.
func wrong(t *testing.T, l ...api.Wide) {
	t.Helper()
	may(t, l, false)
	if wantMay(l) {
		t.Errorf("by the words %s is valid", shown(l))
	}
}

// parses tells a fault if Parse answers otherwise.
func parses(t *testing.T, s string, l []api.Wide, ok bool) {
	t.Helper()
	got, gotOk := Parse(s)
	if !slices.Equal(got, l) || gotOk != ok {
		t.Errorf("10.1: Parse(%.700q) = %s, %v; want %s, %v", s, shown(got), gotOk, shown(l), ok)
	}
}

// fails tells a fault if Parse answers true, or a list.
func fails(t *testing.T, s string) {
	t.Helper()
	parses(t, s, nil, false)
}

// parseAgrees tells a fault if Parse answers otherwise than by the words.
func parseAgrees(t *testing.T, s string) bool {
	t.Helper()
	l, ok := wantParse(s)
	parses(t, s, l, ok)
	return ok
}

// good tells a fault if l is not valid, has another text, or is not parsed
// from it.
func good(t *testing.T, l []api.Wide, s string) {
	t.Helper()
	may(t, l, true)
	if got := Text(l); got != s {
		t.Errorf("10.1: Text(%s) = %q; want %q", shown(l), got, s)
	}
	parses(t, s, l, true)
}

// allows tells a fault if Allows answers otherwise.
func allows(t *testing.T, l []api.Wide, who []string, bit int, want bool) {
	t.Helper()
	if got := Allows(l, who, bit); got != want {
		t.Errorf("10.2: Allows(%s, %.300q, %d) = %v; want %v", shown(l), who, bit, got, want)
	}
}

// allowsAgrees tells a fault if Allows answers otherwise than by the words.
func allowsAgrees(t *testing.T, l []api.Wide, who []string, bit int) bool {
	t.Helper()
	want := wantAllows(l, who, bit)
	allows(t, l, who, bit, want)
	return want
}

// names returns those who ask.
func names(who ...string) []string { return who }

// row returns so many parts, each with another Who.
func row(count int) []api.Wide {
	var l []api.Wide
	for i := range count {
		l = append(l, part(1+i%2, i*5%128, i*513%16384, "user"+string(rune('A'+i))))
	}
	return l
}

// valid lists of all kinds, with their texts.
var some = []struct {
	l []api.Wide
	s string
}{
	{nil, ""},
	{list(allow(3, "OWNER@")), "A::OWNER@:rw"},
	{list(deny(3, "OWNER@")), "D::OWNER@:rw"},
	{list(allow(0, "x")), "A::x:"},
	{list(deny(0, "x")), "D::x:"},
	{list(part(1, 127, 0, "x")), "A:fdnpSFg:x:"},
	{list(part(2, 127, 16383, "x")), "D:fdnpSFg:x:rwaxdDtTnNcCoy"},
	{list(allow(16383, "x")), "A::x:rwaxdDtTnNcCoy"},
	{list(part(1, 64, 9, "GROUP@")), "A:g:GROUP@:rx"},
	{list(part(2, 3, 8193, "EVERYONE@")), "D:fd:EVERYONE@:ry"},
	{list(part(1, 85, 5461, "anna@example")), "A:fnSg:anna@example:radtnco"},
	{list(part(1, 42, 10922, "anna@example")), "A:dpF:anna@example:wxDTNCy"},
	{list(part(1, 5, 8228, "GROUP@")), "A:fn:GROUP@:aDy"},
	// Several parts.
	{list(allow(1, "anna"), deny(1, "anna")), "A::anna:r,D::anna:r"},
	{list(deny(1, "anna"), allow(1, "anna")), "D::anna:r,A::anna:r"},
	{list(allow(1, "anna"), allow(1, "anna")), "A::anna:r,A::anna:r"},
	{list(allow(0, "a b"), part(2, 64, 8192, "=")), "A::a b:,D:g:=:y"},
	{list(deny(2, "anna"), part(1, 67, 7, "staff"), allow(0, "EVERYONE@")), "D::anna:w,A:fdg:staff:rwa,A::EVERYONE@:"},
	{list(allow(16383, "OWNER@"), deny(16383, "GROUP@"), allow(16383, "OWNER@")), "A::OWNER@:rwaxdDtTnNcCoy,D::GROUP@:rwaxdDtTnNcCoy,A::OWNER@:rwaxdDtTnNcCoy"},
	// A Who that looks like something else.
	{list(allow(1, "A")), "A::A:r"},
	{list(deny(1, "D"), allow(1, "A")), "D::D:r,A::A:r"},
	{list(part(1, 1, 1, "f")), "A:f:f:r"},
	{list(part(1, 1, 1, "r"), part(1, 1, 1, "rw")), "A:f:r:r,A:f:rw:r"},
	{list(allow(1, " ")), "A:: :r"},
	{list(allow(1, "\t")), "A::\t:r"},
	{list(allow(1, "\r")), "A::\r:r"},
	{list(allow(1, ";")), "A::;:r"},
	{list(allow(1, "\x01\x09\x0b\x7f")), "A::\x01\x09\x0b\x7f:r"},
	{list(allow(1, "%3A%2C")), "A::%3A%2C:r"},
	{list(allow(1, "\"a\\b'")), "A::\"a\\b':r"},
	{list(allow(1, "1000")), "A::1000:r"},
	{list(allow(1, "\xff")), "A::\xff:r"},
	{list(allow(1, "\x80\xc3")), "A::\x80\xc3:r"},
	{list(allow(1, "\xc3\xa4nne")), "A::\xc3\xa4nne:r"},
	{list(allow(1, "\xef\xbf\xbd")), "A::\xef\xbf\xbd:r"},
	{list(allow(1, "\xe2\x80\xa8")), "A::\xe2\x80\xa8:r"},
	{list(allow(1, "\xef\xbc\x9a\xef\xbc\x8c")), "A::\xef\xbc\x9a\xef\xbc\x8c:r"},
}

// lists returns the lists of some, and those at the edges of their lengths.
func lists() [][]api.Wide {
	var all [][]api.Wide
	for _, c := range some {
		all = append(all, c.l)
	}
	long := strings.Repeat("n", 255)
	most := slices.Repeat(list(part(2, 127, 16383, long)), 32)
	return append(all, row(32), row(31), list(allow(1, long)), most)
}

func TestExamples(t *testing.T) {
	may(t, list(allow(0, "a:b")), false)
	if got := Text(list(part(api.NAllow, 0, 3, "OWNER@"))); got != "A::OWNER@:rw" {
		t.Errorf("10.1: Text of the example = %q", got)
	}
	fails(t, "A::x:wr")
	for bit := range 14 {
		allows(t, nil, names("OWNER@"), bit, false)
	}
}

func TestUsual(t *testing.T) {
	for _, c := range some {
		good(t, c.l, c.s)
	}
	for _, l := range lists() {
		if !mayAgrees(t, l) {
			t.Errorf("by the words %s is not valid", shown(l))
		}
		good(t, l, wantText(l))
		parseAgrees(t, wantText(l))
	}
}

// No part at all is a list, too.
func TestEmpty(t *testing.T) {
	for _, l := range [][]api.Wide{nil, {}, make([]api.Wide, 0, 5), row(3)[:0]} {
		good(t, l, "")
		for bit := -1; bit < 15; bit++ {
			allows(t, l, nil, bit, false)
			allows(t, l, names("", "x"), bit, false)
		}
	}
}

// Every Flags and every Mask that may be, and none beside them.
func TestBits(t *testing.T) {
	for kind, letter := range map[int]string{api.NAllow: "A", api.NDeny: "D"} {
		for flags := range 128 {
			good(t, list(part(kind, flags, 0, "x")), letter+":"+wantLetters(flags, flagLetters)+":x:")
		}
		for mask := range 16384 {
			good(t, list(part(kind, 0, mask, "x")), letter+"::x:"+wantLetters(mask, maskLetters))
		}
	}
	for bit := range 7 {
		good(t, list(part(1, 1<<bit, 0, "x")), "A:"+flagLetters[bit:bit+1]+":x:")
		good(t, list(part(1, mostFlags-1<<bit, 0, "x")), "A:"+flagLetters[:bit]+flagLetters[bit+1:]+":x:")
	}
	for bit := range 14 {
		good(t, list(part(2, 0, 1<<bit, "x")), "D::x:"+maskLetters[bit:bit+1])
		good(t, list(part(2, 0, mostMask-1<<bit, "x")), "D::x:"+maskLetters[:bit]+maskLetters[bit+1:])
	}
}

func TestWrongNumbers(t *testing.T) {
	usual := allow(1, "x")
	everywhere := func(p api.Wide) {
		t.Helper()
		wrong(t, p)
		wrong(t, p, usual)
		wrong(t, usual, p)
		wrong(t, usual, p, usual)
		wrong(t, append(row(31), p)...)
	}
	for _, kind := range []int{0, 3, -1, -2, 4, 8, 256, 257, 258, 1<<32 + 1, math.MinInt, math.MaxInt} {
		everywhere(part(kind, 0, 1, "x"))
	}
	for _, flags := range []int{-1, 128, -2, -127, -128, 129, 255, 256, 384, 1 << 32, 1 << 62, math.MinInt, math.MaxInt} {
		everywhere(part(1, flags, 1, "x"))
		everywhere(part(2, flags, 1, "x"))
	}
	for _, mask := range []int{-1, 16384, -2, -16383, -16384, 16385, 32767, 32768, 1 << 32, 1 << 62, math.MinInt, math.MaxInt} {
		everywhere(part(1, 0, mask, "x"))
		everywhere(part(2, 0, mask, "x"))
	}
	// A Flags that may be is none for a Mask, and the other way round.
	may(t, list(part(1, 127, 128, "x")), true)
	may(t, list(part(1, 128, 127, "x")), false)
	wrong(t, api.Wide{})
	wrong(t, make([]api.Wide, 32)...)
}

// Each byte alone, at the beginning, in the middle and at the end of a Who.
func TestWhoBytes(t *testing.T) {
	for b := range 256 {
		in := string([]byte{byte(b)})
		for _, who := range []string{in, in + "ab", "a" + in + "b", "ab" + in, in + in, "\xc3" + in, in + "\xa4", in + strings.Repeat("n", 254), strings.Repeat("n", 127) + in + strings.Repeat("n", 127), strings.Repeat("n", 254) + in} {
			l := list(part(1, 1, 1, who), part(2, 2, 2, who))
			if b == 0 || b == ':' || b == ',' || b == 10 {
				wrong(t, l...)
				wrong(t, l[:1]...)
				wrong(t, allow(1, "x"), l[1])
				fails(t, "A:f:"+who+":r")
				fails(t, "D:d:x:w,A:f:"+who+":r,D:d:x:w")
			} else {
				good(t, l, "A:f:"+who+":r,D:d:"+who+":w")
			}
		}
	}
}

func TestWhoLengths(t *testing.T) {
	for n := range 600 {
		for _, of := range []string{"n", "\xff", " "} {
			who := strings.Repeat(of, n)
			l := list(part(1, 64, 8192, who))
			if n >= 1 && n <= api.MaxName {
				good(t, l, "A:g:"+who+":y")
			} else {
				wrong(t, l...)
				wrong(t, allow(1, "x"), l[0])
				fails(t, "A:g:"+who+":y")
				fails(t, "A::x:r,A:g:"+who+":y")
			}
		}
	}
	// Bytes are counted, not characters.
	for n, valid := range map[int]bool{127: true, 128: false, 255: false} {
		who := strings.Repeat("\xc3\xa4", n)
		may(t, list(allow(1, who)), valid)
		parseAgrees(t, "A::"+who+":r")
	}
}

func TestLongest(t *testing.T) {
	one := allow(1, "x")
	long := part(2, mostFlags, mostMask, strings.Repeat("n", 255))
	for n := range 70 {
		for _, p := range []api.Wide{one, long, part(1, 0, 0, "\xff")} {
			l := slices.Repeat(list(p), n)
			if n <= api.MaxAces {
				good(t, l, wantText(l))
			} else {
				wrong(t, l...)
				fails(t, wantText(l))
			}
		}
	}
	l := row(33)
	good(t, l[:32], wantText(l[:32]))
	wrong(t, l...)
	fails(t, wantText(l))
}

func TestWrongTexts(t *testing.T) {
	for _, s := range []string{
		// A comma alone, a comma too many, or another byte in place of one.
		",", ",,", ",,,", ",A::x:r", "A::x:r,", ",A::x:r,", "A::x:r,,A::x:r", "A::x:r,,", ",,A::x:r", "A::x:r,A::x:r,", ",A::x:r,A::x:r", "A::x:rA::x:r", "A::x:r;A::x:r", "A::x:r A::x:r", "A::x:r\nA::x:r", "A::x:r\x00A::x:r", "A::x:r, A::x:r", "A::x:r ,A::x:r", "A::x,:r", "A:,:x:r", ",:,", "A,::x:r", "A:f,d:x:r", "A::x:r,w",
		// A colon too few or too many.
		"A", "D", "A:", "A::", "A::x", ":", "::", ":::", "::::", "A:x:r", "A:f:x", "A:f:r", "A::xr", "Ax:r", "A:::", "A::x:r:", ":A::x:r", "A:::x:r", "A::x::r", "A::x:r:w", "A:f:d:x:r", "A::x:y:r", "A::x:r:,A::x:r", "A::x:r,A:x:r", "A:x:r,A::x:r", "A::x:r,A::x:r:", "x", "r", "x:r",
		// Another letter than A or D, none or two.
		"a::x:r", "d::x:r", "X::x:r", "B::x:r", "E::x:r", "U::x:r", "L::x:r", "@::x:r", "1::x:r", "2::x:r", " ::x:r", "\x00::x:r", "\x01::x:r", "::x:r", ":f:x:r", "AA::x:r", "DD::x:r", "AD::x:r", "DA::x:r", " A::x:r", "A ::x:r", " AD::x:r", "allow::x:r", "Allow::x:r", "Deny::x:r", "f:A:x:r", "\xd0\x90::x:r", "\xef\xbc\xa1::x:r", "\xc1::x:r", "A::x:r,a::x:r", "A::x:r,::x:r", "A::x:r,AD::x:r", "A::x:r,B::x:r",
		// Flags out of order, twice, unknown, or of the other row.
		"A:df:x:r", "A:gf:x:r", "A:Fs:x:r", "A:FS:x:r", "A:nd:x:r", "A:fdnpSgF:x:r", "A:gFSpndf:x:r", "A:ff:x:r", "A:fdd:x:r", "A:fdf:x:r", "A:fdnpSFgg:x:r", "A:fdnpSFgf:x:r", "A:r:x:r", "A:w:x:r", "A:fr:x:r", "A:D:x:r", "A:N:x:r", "A:P:x:r", "A:s:x:r", "A:G:x:r", "A:z:x:r", "A: :x:r", "A:f :x:r", "A: f:x:r", "A:-:x:r", "A:0:x:r", "A:1:x:r", "A:f\x00:x:r", "A:\xe6:x:r", "A:f\xcc\x81:x:r", "A::x:r,A:df:x:r", "A::x:r,A:ff:x:r",
		// Rights out of order, twice, unknown, or of the other row.
		"A::x:wr", "A::x:xw", "A::x:xr", "A::x:Dd", "A::x:dxr", "A::x:Tt", "A::x:Nn", "A::x:Cc", "A::x:yo", "A::x:yoCcNnTtDdxawr", "A::x:rwaxdDtTnNcCyo", "A::x:wraxdDtTnNcCoy", "A::x:rr", "A::x:rwr", "A::x:rww", "A::x:yy", "A::x:rwaxdDtTnNcCoyy", "A::x:rwaxdDtTnNcCoyr", "A::x:f", "A::x:rf", "A::x:p", "A::x:S", "A::x:F", "A::x:g", "A::x:rg", "A::x:z", "A::x:R", "A::x:W", "A::x:rz", "A::x:zr", "A::x:r-", "A::x:r--", "A::x: r", "A::x:r ", "A::x: ", "A::x:3", "A::x:0", "A::x:r\n", "A::x:\n", "A::x:r\x00", "A::x:\xf2", "A::x:r\xff", "A::x:\xd1\x83", "A::x:r,A::x:wr", "A::x:rr,A::x:r",
		// No Who, or one that may not be.
		"A:::r", "D:::r", "A:f::r", "A::x:r,A:::r", "A:::r,A::x:r", "A::\x00:r", "A::\n:r", "A::a\nb:r", "A::a\x00b:r", "A::,:r", "A:::::r", "A::a:b:r", "A::a,b:r",
		// Bytes ahead or behind.
		" ", "\n", "\x00", "\n,", "A::x:r\r\n", "\nA::x:r", " A::x:r", "\xef\xbb\xbfA::x:r", "\"A::x:r\"", "A::x:r#all", "0", "nil", "A\\::x:r",
	} {
		fails(t, s)
		if l, ok := wantParse(s); ok {
			t.Errorf("by the words %q is the text of %s", s, shown(l))
		}
	}
}

// Each pair of letters of a row: only the one in order is a text.
func TestPairs(t *testing.T) {
	for i := range 7 {
		for j := range 7 {
			s := "D:" + string([]byte{flagLetters[i], flagLetters[j]}) + ":who:ry"
			parses(t, s, map[bool][]api.Wide{true: list(part(2, 1<<i|1<<j, 8193, "who"))}[i < j], i < j)
		}
	}
	for i := range 14 {
		for j := range 14 {
			s := "D:fg:who:" + string([]byte{maskLetters[i], maskLetters[j]})
			parses(t, s, map[bool][]api.Wide{true: list(part(2, 65, 1<<i|1<<j, "who"))}[i < j], i < j)
		}
	}
	for b := range 256 {
		in := string([]byte{byte(b)})
		for _, s := range []string{in + "::x:r", "A:" + in + ":x:r", "A::x:" + in, "A:fdn" + in + ":x:r", "A::x:rwa" + in} {
			parseAgrees(t, s)
		}
		if bit := strings.Index(flagLetters, in); bit < 0 && in != ":" {
			fails(t, "A:"+in+":x:r")
		}
		if bit := strings.Index(maskLetters, in); bit < 0 {
			fails(t, "A::x:"+in)
		}
	}
}

// All texts of a few bytes that parts are made of.
func TestAllShort(t *testing.T) {
	valid := 0
	var extend func(s string, more int)
	extend = func(s string, more int) {
		if parseAgrees(t, s) {
			valid++
		}
		if more == 0 {
			return
		}
		for _, b := range "ADfr:,\n" {
			extend(s+string(b), more-1)
		}
	}
	extend("", 7)
	// Beside the empty one: two types, the ways to set some of the bits f, r
	// and D, and in each place of the Who one of the letters A, D, f and r.
	want := 1
	for letters, ways := range []int{1, 3, 3} {
		for n, whos := 1, 4; 4+letters+n <= 7; n, whos = n+1, whos*4 {
			want += 2 * ways * whos
		}
	}
	if valid != want {
		t.Errorf("10.1: %d valid texts; want %d", valid, want)
	}
}

// A valid text with one byte or two away, turned, put in or added.
func TestTurnedTexts(t *testing.T) {
	valid := 0
	try := func(s string) {
		if parseAgrees(t, s) {
			valid++
		}
	}
	for _, c := range some {
		for i := range len(c.s) + 1 {
			try(c.s[:i])
			try(c.s[i:])
			for b := range 256 {
				in := string([]byte{byte(b)})
				try(c.s[:i] + in + c.s[i:])
				if i < len(c.s) {
					try(c.s[:i] + in + c.s[i+1:])
				}
			}
			for j := i; j <= len(c.s); j++ {
				try(c.s[:i] + c.s[j:])
				try(c.s[:j] + c.s[i:])
			}
		}
	}
	if valid < 1000 {
		t.Errorf("the test meets %d valid texts", valid)
	}
}

// Lists from mixed parts, and texts put together from pieces.
func TestMixed(t *testing.T) {
	random := rand.New(rand.NewSource(10))
	pieces := []string{"A::x:r", "D:fd:OWNER@:", "A:g:x:wy", "D::\xff:o", "A::x:wr", "B::x:r", "A:::r", ""}
	whos := []string{"x", "x", "OWNER@", "\xff", "a b", "a:b", "", "x\n"}
	met := map[bool]int{}
	for range 100000 {
		var parts []string
		for range random.Intn(5) {
			parts = append(parts, pieces[random.Intn(4)*random.Intn(3)%len(pieces)])
		}
		met[parseAgrees(t, strings.Join(parts, ","))]++
		var l []api.Wide
		for range random.Intn(5) {
			l = append(l, part(1+random.Intn(41)/20, random.Intn(130)-1, random.Intn(16386)-1, whos[random.Intn(4)+random.Intn(20)/16]))
		}
		valid := mayAgrees(t, l)
		met[valid]++
		if valid {
			good(t, l, wantText(l))
		}
	}
	if met[true] < 10000 || met[false] < 10000 {
		t.Errorf("the test meets %v", met)
	}
}

// One part: its own bits and its own Who, whatever its Flags.
func TestAllowsOne(t *testing.T) {
	for mask := range 16384 {
		l, denied := list(allow(mask, "x")), list(part(2, mask%128, mask, "x"))
		for bit := range 14 {
			allows(t, l, names("x"), bit, mask&(1<<bit) != 0)
			allows(t, denied, names("x"), bit, false)
		}
	}
	for flags := range 128 {
		allows(t, list(part(1, flags, 8192, "x")), names("x"), 13, true)
		allows(t, list(part(1, flags, 8192, "x")), names("x"), 12, false)
		allows(t, list(part(2, flags, 8192, "x"), allow(8192, "x")), names("x"), 13, false)
	}
}

// Bits that there are not, even where every bit that there is is allowed.
func TestAllowsNoBit(t *testing.T) {
	l := list(part(1, 127, 16383, "x"))
	for bit := range 14 {
		allows(t, l, names("x"), bit, true)
	}
	for _, bit := range []int{-1, 14, -2, -13, -14, -64, 15, 16, 31, 32, 63, 64, 65, 77, 78, 128, 256, 1 << 32, 1<<32 + 1, -1 << 32, math.MinInt, math.MinInt + 1, math.MaxInt, math.MaxInt - 1} {
		allows(t, l, names("x"), bit, false)
		allows(t, nil, names("x"), bit, false)
		allows(t, list(deny(16383, "x")), names("x"), bit, false)
	}
}

// Who is who: all of the bytes, and none of those who do not ask.
func TestAllowsWho(t *testing.T) {
	long := strings.Repeat("n", 255)
	whos := names("x", "X", "xx", "y", "x ", " x", "OWNER@", "owner@", "OWNER", "GROUP@", "EVERYONE@", "*", "?", "\xff", "\xfe", "\xef\xbf\xbd", "\xc3\xa4", "a\xcc\x88", "\xc3", "1", "01", long, long[1:])
	for _, who := range whos {
		for _, name := range whos {
			l := list(deny(2, who), allow(3, who))
			allows(t, l, names(name), 0, who == name)
			allows(t, l, names(name), 1, false)
			allows(t, l, names("z", name, "zz"), 0, who == name)
		}
		l := list(allow(1, who))
		allows(t, l, nil, 0, false)
		allows(t, l, names(), 0, false)
		allows(t, l, whos, 0, true)
		allows(t, l, names(""), 0, false)
		allows(t, l, names("", "", ""), 0, false)
		allows(t, l, names(who, who), 0, true)
		allows(t, l, names("", who), 0, true)
		// A Who that begins, or ends, like another one.
		allows(t, l, names(who+"n", who+":", who+"\x00", "n"+who, who[:len(who)-1]), 0, false)
		allows(t, l, names(who+"n", who), 0, true)
	}
	// Names that no Who may be belong to nobody.
	for _, name := range names("a:b", "a,b", "a\n", "a\x00", "", strings.Repeat("n", 256)) {
		allows(t, list(allow(1, "a"), allow(1, "b"), allow(1, long)), names(name), 0, false)
	}
}

func TestAllowsFirst(t *testing.T) {
	l := list(deny(1, "bob"), allow(3, "staff"), deny(2, "bob"), allow(4, "bob"), deny(5, "staff"), allow(8, "EVERYONE@"))
	for i, c := range []struct {
		who  []string
		bit  int
		want bool
	}{
		{names("bob"), 0, false}, {names("staff"), 0, true}, {names("bob", "staff"), 0, false}, {names("staff", "bob"), 0, false},
		{names("bob"), 1, false}, {names("staff"), 1, true}, {names("bob", "staff"), 1, true}, {names("staff", "bob"), 1, true},
		{names("bob"), 2, true}, {names("staff"), 2, false}, {names("bob", "staff"), 2, true}, {names("staff", "bob"), 2, true},
		{names("bob"), 3, false}, {names("EVERYONE@"), 3, true}, {names("bob", "EVERYONE@"), 3, true}, {names("eve"), 3, false},
		{names("eve"), 0, false}, {names("eve", "staff", "adam"), 0, true}, {nil, 0, false}, {names("bob", "staff", "EVERYONE@"), 4, false},
	} {
		if got := Allows(l, c.who, c.bit); got != c.want {
			t.Errorf("10.2: case %d: Allows = %v", i, got)
		}
		allowsAgrees(t, l, c.who, c.bit)
	}
	for bit := range 14 {
		// The order of the parts decides.
		for other := range 14 {
			allows(t, list(deny(1<<bit, "x"), allow(1<<other, "x")), names("x"), other, bit != other)
			allows(t, list(allow(1<<other, "x"), deny(1<<bit, "x")), names("x"), other, true)
			allows(t, list(deny(1<<other, "y"), allow(1<<bit, "x")), names("x"), bit, true)
			allows(t, list(deny(1<<other, "y"), allow(1<<bit, "x")), names("x", "y"), bit, bit != other)
			allows(t, list(deny(1<<other, "y"), allow(1<<bit, "x")), names("y", "x"), bit, bit != other)
		}
		// The last part of as many as may be.
		l := append(slices.Repeat(list(deny(mostMask-1<<bit, "x"), deny(mostMask, "y")), 15), deny(mostMask, "X"), allow(1<<bit, "x"))
		may(t, l, true)
		allows(t, l, names("x"), bit, true)
		allows(t, l[:31], names("x"), bit, false)
	}
}

// someone returns a list and those who ask, of few names.
func someone(random *rand.Rand) ([]api.Wide, []string) {
	whos := names("a", "b", "ab", "OWNER@")
	var l []api.Wide
	for range random.Intn(33) {
		l = append(l, part(1+random.Intn(2), random.Intn(128), random.Intn(16384)&random.Intn(16384)&random.Intn(16384), whos[random.Intn(4)]))
	}
	var who []string
	for range random.Intn(4) {
		who = append(who, append(whos, "", "A", "abc")[random.Intn(7)])
	}
	return l, who
}

func TestAllowsMixed(t *testing.T) {
	random := rand.New(rand.NewSource(10))
	met := map[bool]int{}
	for range 20000 {
		l, who := someone(random)
		for bit := -1; bit < 15; bit++ {
			met[allowsAgrees(t, l, who, bit)]++
		}
	}
	if met[true] < 10000 || met[false] < 10000 {
		t.Errorf("the test meets %v", met)
	}
}

// 10.3: what stands behind the part that decides may be anything, or nothing.
func TestPartsAfter(t *testing.T) {
	random := rand.New(rand.NewSource(103))
	decided := 0
	for range 20000 {
		l, who := someone(random)
		for bit := range 14 {
			i := decider(l, who, bit)
			if i < 0 {
				continue
			}
			decided++
			want := l[i].Type == api.NAllow
			more, _ := someone(random)
			ahead := slices.Clone(l[:i+1])
			reversed := slices.Clone(l[i+1:])
			slices.Reverse(reversed)
			otherwise := part(3-l[i].Type, 0, mostMask, l[i].Who)
			for _, after := range [][]api.Wide{nil, l[i+1:], reversed, more, {otherwise}, slices.Repeat(list(otherwise), 31), {deny(mostMask, "a"), deny(mostMask, "b")}, {allow(mostMask, "a"), allow(mostMask, "b")}} {
				whole := slices.Concat(ahead, after)
				whole = whole[:min(len(whole), api.MaxAces)]
				if got := Allows(whole, who, bit); got != want {
					t.Fatalf("10.3: Allows(%s, %q, %d) = %v; want %v", shown(whole), who, bit, got, want)
				}
			}
		}
	}
	if decided < 10000 {
		t.Errorf("the test meets %d parts that decide", decided)
	}
}

// R1: whatever is given, nothing panics, and each call ends.
func TestNoPanic(t *testing.T) {
	numbers := []int{math.MinInt, -1 << 31, -1, 0, 1, 2, 3, 127, 128, 16383, 16384, 1 << 31, math.MaxInt}
	for _, kind := range numbers {
		for _, flags := range numbers {
			for _, mask := range numbers {
				for _, who := range names("", "x", "\x00", "a:b,c") {
					p := part(kind, flags, mask, who)
					for _, l := range [][]api.Wide{{p}, {allow(1, "x"), p}, {p, allow(1, "x")}} {
						mayAgrees(t, l)
						Text(l)
						for _, bit := range numbers {
							Allows(l, names("", "x"), bit)
						}
					}
				}
			}
		}
	}
	long := make([]api.Wide, 1<<20)
	wrong(t, long...)
	Text(long)
	Allows(long, names("x"), 0)
	wide := strings.Repeat("n", 1<<20)
	wrong(t, allow(1, wide))
	Text(list(allow(1, wide)))
	allows(t, row(32), slices.Repeat(names("x"), 1<<16), 0, false)
	for _, s := range names("A::x:r,", ",", ":", "A", "A:", "A::", "f", "\x00") {
		fails(t, strings.Repeat(s, 1<<20))
		fails(t, "A:"+strings.Repeat(s, 1<<20)+":x:r")
		fails(t, "A::"+strings.Repeat(s, 1<<20)+":r")
		fails(t, "A::x:"+strings.Repeat(s, 1<<20))
		fails(t, "A::x:r,"+strings.Repeat(s, 1<<20))
	}
}

// R3: arguments stay as they are, and answers share no memory.
func TestNewMemory(t *testing.T) {
	for _, l := range lists() {
		before := slices.Clone(l)
		s := wantText(l)
		who := names("x", "OWNER@", "")
		May(l)
		Text(l)
		Allows(l, who, 1)
		if !slices.Equal(l, before) || !slices.Equal(who, names("x", "OWNER@", "")) {
			t.Errorf("R3: %s was %s; who asks is %q", shown(l), shown(before), who)
		}
		a, _ := Parse(s)
		b, _ := Parse(s)
		scribble(a)
		if !slices.Equal(b, before) {
			t.Errorf("R3: two lists of Parse share memory: %s", shown(b))
		}
		parses(t, s, before, true)
		if s != "" && unsafe.StringData(Text(l)) == unsafe.StringData(Text(l)) {
			t.Errorf("R3: two texts of %s share memory", shown(l))
		}
		for i, p := range b {
			if inside(p.Who, s) {
				t.Errorf("R3: the Who of part %d shares memory with %q", i, s)
			}
		}
	}
}

// inside tells whether part lies in the memory of s.
func inside(part, s string) bool {
	at := uintptr(unsafe.Pointer(unsafe.StringData(part)))
	first := uintptr(unsafe.Pointer(unsafe.StringData(s)))
	return at >= first && at < first+uintptr(len(s))
}

// scribble writes over a list and its spare capacity.
func scribble(l []api.Wide) {
	l = l[:cap(l)]
	for i := range l {
		l[i] = part(-1, -1, -1, "scribbled")
	}
}

// R4: beside false there is no list.
func TestNoList(t *testing.T) {
	for _, s := range names(",", "A::x:r,", "A::x:r,A::x:wr", "A::x:r,A::x:r,B::x:r", strings.Repeat("A::x:r,", 32)+"A::x:r", strings.Repeat("A::x:r,", 5000)) {
		if l, ok := Parse(s); l != nil || ok {
			t.Errorf("R4: Parse(%.60q) = %s of %d, %v", s, shown(l), cap(l), ok)
		}
	}
}

// The way of the chapter: text that is not a part panics inside, and with
// nothing but what is meant for it.
func TestWay(t *testing.T) {
	none := api.Wide{}
	for _, c := range []struct {
		s string
		p api.Wide
	}{
		{"A::x:", allow(0, "x")}, {"D::x:r", deny(1, "x")}, {"A:fg:OWNER@:ry", part(1, 65, 8193, "OWNER@")}, {"D:fdnpSFg:\xff:rwaxdDtTnNcCoy", part(2, 127, 16383, "\xff")},
		{"", none}, {"A", none}, {"A:", none}, {"A::", none}, {"A::x", none}, {"A::x:r:", none}, {":::", none}, {"::x:r", none}, {"B::x:r", none}, {" ::x:r", none}, {" A::x:r", none}, {"AD::x:r", none}, {"A:df:x:r", none}, {"A:ff:x:r", none}, {"A:r:x:r", none}, {"A::x:wr", none}, {"A::x:rr", none}, {"A::x:f", none}, {"A::x:r\n", none},
	} {
		func() {
			defer func() {
				got := recover()
				if _, is := got.(noPart); is != (c.p == none) || got != nil && !is {
					t.Errorf("10, Ways: the parsing of %q panics with %s", c.s, reflect.TypeOf(got))
				}
			}()
			if got := parsePart(c.s); got != c.p {
				t.Errorf("10, Ways: the parsing of %q gives %s", c.s, shown(list(got)))
			}
		}()
	}
}

func FuzzParse(f *testing.F) {
	for _, l := range lists() {
		f.Add(wantText(l))
		f.Add("," + wantText(l) + ",")
	}
	f.Fuzz(func(t *testing.T, s string) {
		if parseAgrees(t, s) {
			l, _ := Parse(s)
			good(t, l, s)
		}
	})
}

func FuzzAllows(f *testing.F) {
	f.Add("A::x:r", "x", "", 0)
	f.Add("D::x:r,A::y:rw,A::x:w", "x", "y", 1)
	f.Add("A::x:rwaxdDtTnNcCoy", "xx", "x", 14)
	f.Fuzz(func(t *testing.T, s, first, second string, bit int) {
		if l, ok := Parse(s); ok {
			allowsAgrees(t, l, names(first, second), bit)
			allowsAgrees(t, l, names(first), bit)
			allowsAgrees(t, l, strings.Split(s, ":"), bit)
		}
	})
}
