package flags

import (
	"math"
	"math/rand"
	"slices"
	"strings"
	"testing"
	"unsafe"

	"gripsack/api"
)

// texts has the text of each valid number at its place, written out.
var texts = [16]string{
	"",
	"uchg",
	"uappnd",
	"uchg,uappnd",
	"nodump",
	"uchg,nodump",
	"uappnd,nodump",
	"uchg,uappnd,nodump",
	"opaque",
	"uchg,opaque",
	"uappnd,opaque",
	"uchg,uappnd,opaque",
	"nodump,opaque",
	"uchg,nodump,opaque",
	"uappnd,nodump,opaque",
	"uchg,uappnd,nodump,opaque",
}

// four are the names, in the order of their bits.
var four = []string{"uchg", "uappnd", "nodump", "opaque"}

func rep(s string, n int) string { return strings.Repeat(s, n) }

// wantText is what Text answers, by the words of the chapter.
func wantText(n int) string {
	if n < 0 || n > 15 {
		return ""
	}
	l := []string{}
	for _, name := range four {
		if n%2 == 1 {
			l = append(l, name)
		}
		n /= 2
	}
	return strings.Join(l, ",")
}

// wantParse is what Parse answers: every valid number is tried.
func wantParse(s string) (int, bool) {
	n := slices.Index(texts[:], s)
	return max(n, 0), n >= 0
}

// good tells a fault if n is not valid, has another text than s, or is not what
// s says.
func good(t *testing.T, n int, s string) {
	t.Helper()
	if !May(n) {
		t.Errorf("12.1: May(%d) = false", n)
	}
	if got := Text(n); got != s {
		t.Errorf("12.1: Text(%d) = %q; want %q", n, got, s)
	}
	if got, ok := Parse(s); got != n || !ok {
		t.Errorf("12.1: Parse(%q) = %d, %v; want %d", s, got, ok, n)
	}
	if got, ok := Parse(Text(n)); got != n || !ok {
		t.Errorf("12.2: Parse(Text(%d)) = %d, %v", n, got, ok)
	}
}

// wrong tells a fault if n is valid, or has a text.
func wrong(t *testing.T, n int) {
	t.Helper()
	if May(n) {
		t.Errorf("12.1: May(%d) = true", n)
	}
	if got := Text(n); got != "" {
		t.Errorf("12.1: Text(%d) = %q; want the empty string", n, got)
	}
}

// fails tells a fault if Parse takes s, or answers anything beside false.
func fails(t *testing.T, s string) {
	t.Helper()
	if got, ok := Parse(s); got != 0 || ok {
		t.Errorf("12.1: Parse(%.60q of %d bytes) = %d, %v; want 0, false", s, len(s), got, ok)
	}
}

// agrees tells a fault if May or Text of n answers otherwise than by the words.
func agrees(t *testing.T, n int) bool {
	t.Helper()
	valid := n >= 0 && n <= 15
	if valid {
		good(t, n, wantText(n))
	} else {
		wrong(t, n)
	}
	return valid
}

// parseAgrees tells a fault if Parse answers otherwise than by the words.
func parseAgrees(t *testing.T, s string) bool {
	t.Helper()
	n, ok := wantParse(s)
	if !ok {
		fails(t, s)
	} else {
		good(t, n, s)
	}
	return ok
}

func TestExamples(t *testing.T) {
	wrong(t, 16)
	good(t, 5, "uchg,nodump")
	fails(t, "nodump,uchg")
}

// Every number that may be, its text, and what this text says again.
func TestEach(t *testing.T) {
	for n, s := range texts {
		good(t, n, s)
		if want := wantText(n); want != s {
			t.Errorf("the words say that the text of %d is %q, not %q", n, want, s)
		}
	}
	good(t, api.FImmutable, "uchg")
	good(t, api.FAppend, "uappnd")
	good(t, api.FNoDump, "nodump")
	good(t, api.FOpaque, "opaque")
	good(t, 0, "")
}

func TestWrongNumbers(t *testing.T) {
	for _, n := range []int{-1, -2, -8, -15, -16, -17, 16, 17, 31, 32, 255, 256, math.MinInt, math.MinInt + 1, math.MinInt + 15, math.MaxInt, math.MaxInt - 1, math.MinInt32, math.MaxInt32, math.MaxUint32} {
		wrong(t, n)
	}
	// The lowest four bits say something while a higher one is set.
	for bit := 4; bit < 64; bit++ {
		for n := range 16 {
			wrong(t, n|1<<bit)
			wrong(t, n|-1<<bit)
		}
	}
	for n := -5000; n <= 5000; n++ {
		if agrees(t, n) != (n >= 0 && n < 16) {
			t.Errorf("the words say otherwise of %d", n)
		}
	}
}

func TestWrongCommas(t *testing.T) {
	for n := range 40 {
		fails(t, rep(",", n+1))
	}
	for _, s := range texts[1:] {
		fails(t, s+",")
		fails(t, s+",,")
		fails(t, ","+s)
		fails(t, ",,"+s)
		fails(t, ","+s+",")
		for i := range len(s) {
			if s[i] == ',' {
				fails(t, s[:i]+","+s[i:])
				fails(t, s[:i]+",,"+s[i:])
				fails(t, s[:i]+s[i+1:])
			}
		}
	}
}

// Another sign than the comma between two names.
func TestWrongSigns(t *testing.T) {
	signs := []string{", ", " ,", " , ", ",\x00", "\x00,", "\uff0c", "\xc2\xac", "\xac", "and", "|", "||", ",\n", "\r\n", ",uchg,", ",opaque,"}
	for c := range 256 {
		if c != ',' {
			signs = append(signs, string([]byte{byte(c)}))
		}
	}
	for _, s := range texts {
		for i := range len(s) {
			for _, sign := range signs {
				if s[i] == ',' {
					fails(t, s[:i]+sign+s[i+1:])
				}
			}
		}
	}
}

// Every list of one name to five: each but the fifteen texts is refused, so
// that names out of order, a name twice and five names are.
func TestEachList(t *testing.T) {
	taken, lists := 0, []string{""}
	for length := 1; length <= 5; length++ {
		var longer []string
		for _, s := range lists {
			for _, name := range four {
				longer = append(longer, strings.TrimPrefix(s+","+name, ","))
			}
		}
		lists = longer
		for _, s := range lists {
			if parseAgrees(t, s) {
				taken++
			}
		}
	}
	if taken != 15 || len(lists) != 1024 {
		t.Errorf("the test meets %d texts and %d lists of five names", taken, len(lists))
	}
}

func TestWrongOrder(t *testing.T) {
	for _, s := range []string{
		"nodump,uchg", "uappnd,uchg", "opaque,uchg", "nodump,uappnd", "opaque,uappnd", "opaque,nodump",
		"opaque,nodump,uappnd,uchg", "uchg,nodump,uappnd", "uchg,uappnd,opaque,nodump",
		"uchg,uchg", "uappnd,uappnd", "nodump,nodump", "opaque,opaque", "uchg,uappnd,uchg", "uchg,nodump,nodump", "uappnd,nodump,uappnd",
		texts[15] + ",uchg", texts[15] + ",opaque", "uchg," + texts[15], texts[15] + "," + texts[15],
	} {
		fails(t, s)
	}
}

// bent are the ways in which a name can be written wrongly.
func bent(name string) []string {
	l := []string{
		"", name[1:], name[:len(name)-1], strings.ToUpper(name), strings.ToUpper(name[:1]) + name[1:], name[:len(name)-1] + strings.ToUpper(name[len(name)-1:]),
		name + name, "no" + name, name + "s", "u" + name, name + name[len(name)-1:], name[:1] + name,
	}
	for c := range 256 {
		other := string([]byte{byte(c)})
		if other != "," {
			l = append(l, name+other, other+name)
		}
		for i := range len(name) {
			if other[0] != name[i] {
				l = append(l, name[:i]+other+name[i+1:])
			}
		}
	}
	for i := 1; i < len(name); i++ {
		l = append(l, name[i:], name[:i], name[:i]+name[i+1:], name[:i]+","+name[i:], name[:i]+"\x00"+name[i:])
	}
	return l
}

func TestWrongNames(t *testing.T) {
	for i, name := range four {
		for _, other := range bent(name) {
			for n, s := range texts {
				l := strings.Split(s, ",")
				at := slices.Index(l, name)
				if at < 0 {
					continue
				}
				l[at] = other
				// The bare empty name is the text of 0.
				if text := strings.Join(l, ","); text != "" {
					fails(t, text)
				} else if n != 1<<i {
					t.Errorf("the test meets the empty text for %d", n)
				}
			}
		}
	}
	for _, s := range []string{
		"schg", "sappnd", "arch", "uunlnk", "sunlnk", "dump", "hidden", "nouchg", "nouappnd", "noopaque", "uappend", "uimmutable", "uchange", "none",
		"-", "0", "1", "5", "15", "0x1", "=", ".", "*", "\x00", " ", "  ", "\t", "\n", "\r\n", "\xc2\xa0", "\ufeff", "\ufeffuchg", "u\u0441hg", "uch\xef\xbd\x87",
	} {
		fails(t, s)
		for _, text := range texts[1:] {
			fails(t, text+","+s)
			fails(t, s+","+text)
		}
	}
}

func TestWrongEnds(t *testing.T) {
	for _, s := range texts {
		for _, end := range []string{" ", "\x00", "\n", "\t", "\r", "\"", ";", "\xc2\xa0", "\xff", rep(" ", 1000), rep("\x00", 1000)} {
			fails(t, s+end)
			fails(t, end+s)
			fails(t, end+s+end)
		}
	}
}

// A text of many thousand bytes.
func TestWrongLong(t *testing.T) {
	for _, n := range []int{100, 10000, 1 << 16, 1 << 20} {
		for _, part := range []string{",", "u", "uchg", "uchg,", ",uchg", "uappnd,", "nodump,", "opaque,", ",opaque", texts[15] + ",", "uchg,,", " ", "\x00", "\xff", "\xc3\xa4"} {
			fails(t, rep(part, n))
			for _, s := range texts[1:] {
				fails(t, s+rep(part, n))
				fails(t, rep(part, n)+s)
			}
		}
	}
}

// A byte put in, taken out or turned: what is taken is a text of the chapter.
func TestEachByte(t *testing.T) {
	for _, s := range texts {
		for i := range len(s) + 1 {
			for c := range 256 {
				other := string([]byte{byte(c)})
				fails(t, s[:i]+other+s[i:])
				if i < len(s) && s[i] != other[0] {
					fails(t, s[:i]+other+s[i+1:])
				}
			}
			parseAgrees(t, s[:i])
			parseAgrees(t, s[i:])
			if i < len(s) {
				fails(t, s[:i]+s[i+1:])
			}
		}
	}
}

func TestMixed(t *testing.T) {
	random := rand.New(rand.NewSource(12))
	pieces := append(slices.Clone(four), "uchg", "uappnd", "nodump", "opaque", "uchg", "schg", "", "u", " ", "Opaque")
	met := map[bool]int{}
	for range 100000 {
		l := make([]string, random.Intn(6))
		for i := range l {
			l[i] = pieces[random.Intn(len(pieces))]
		}
		if random.Intn(2) == 0 {
			place := func(s string) int { return slices.Index(four, s) }
			slices.SortFunc(l, func(a, b string) int { return place(a) - place(b) })
			l = slices.Compact(l)
		}
		met[parseAgrees(t, strings.Join(l, ","))]++
		agrees(t, int(random.Uint64()>>random.Intn(65)))
	}
	if met[true] < 10000 || met[false] < 10000 {
		t.Errorf("the test meets %v", met)
	}
}

// 12.2 says that no two valid numbers have one text.
func TestTextsDiffer(t *testing.T) {
	numbers := map[string]int{}
	for n := range 16 {
		numbers[Text(n)] = n
	}
	if len(numbers) != 16 {
		t.Errorf("12.2: the valid numbers have the texts %v", numbers)
	}
}

// R1: the same call has the same answer, whatever was asked in between.
func TestAgain(t *testing.T) {
	for range 3 {
		for n := 20; n >= -5; n-- {
			agrees(t, n)
			fails(t, "uchg,uchg")
		}
	}
}

// R3: two answers share no memory.
func TestNewMemory(t *testing.T) {
	for n := 1; n < 16; n++ {
		if unsafe.StringData(Text(n)) == unsafe.StringData(Text(n)) {
			t.Errorf("R3: two texts of %d share memory", n)
		}
	}
}

// The way of the chapter: text that is not a flag panics inside, and with
// nothing but what is meant for it.
func TestWay(t *testing.T) {
	for _, c := range []struct {
		s string
		n int
	}{
		{"uchg", 1}, {"uappnd", 2}, {"nodump", 4}, {"opaque", 8}, {"uchg,nodump", 5}, {texts[15], 15},
		{"", 0}, {",", 0}, {"schg", 0}, {"uchg,", 0}, {",uchg", 0}, {"nodump,uchg", 0}, {"uchg,uchg", 0}, {"uchg,,nodump", 0}, {texts[15] + ",uchg", 0}, {"\xff", 0}, {rep("uchg,", 1000), 0},
	} {
		func() {
			defer func() {
				got := recover()
				if _, is := got.(noFlags); is != (c.n == 0) || got != nil && !is {
					t.Errorf("12, Ways: the parsing of %.60q panics with %T", c.s, got)
				}
			}()
			if got := parse(c.s); got != c.n {
				t.Errorf("12, Ways: the parsing of %.60q gives %d", c.s, got)
			}
		}()
	}
}

func FuzzParse(f *testing.F) {
	for _, s := range texts {
		f.Add(s)
		f.Add(s + ",")
		f.Add(strings.ToUpper(s))
	}
	f.Add("nodump,uchg")
	f.Add("uchg,uchg")
	f.Fuzz(func(t *testing.T, s string) { parseAgrees(t, s) })
}

func FuzzMay(f *testing.F) {
	for n := -1; n <= 16; n++ {
		f.Add(n)
		f.Add(n + 1<<32)
	}
	f.Fuzz(func(t *testing.T, n int) { agrees(t, n) })
}
