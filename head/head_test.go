package head

import (
	"archive/tar"
	"bytes"
	"fmt"
	"math"
	"math/rand"
	"regexp"
	"strings"
	"testing"
	"time"

	"gripsack/api"
)

// place is where a field of a block stands.
type place struct{ at, width int }

var (
	nameAt   = place{0, 100}
	modeAt   = place{100, 8}
	uidAt    = place{108, 8}
	gidAt    = place{116, 8}
	sizeAt   = place{124, 12}
	mtimeAt  = place{136, 12}
	sumAt    = place{148, 8}
	typeAt   = place{156, 1}
	linkAt   = place{157, 100}
	magicAt  = place{257, 8}
	unameAt  = place{265, 32}
	gnameAt  = place{297, 32}
	majorAt  = place{329, 8}
	minorAt  = place{337, 8}
	prefixAt = place{345, 155}
	unusedAt = place{500, 12}
)

// texts are the fields of strings: their names, places and members.
var texts = []struct {
	name string
	place
	of func(h *api.Header) *string
}{
	{"Name", nameAt, func(h *api.Header) *string { return &h.Name }},
	{"Link", linkAt, func(h *api.Header) *string { return &h.Link }},
	{"Uname", unameAt, func(h *api.Header) *string { return &h.Uname }},
	{"Gname", gnameAt, func(h *api.Header) *string { return &h.Gname }},
	{"Prefix", prefixAt, func(h *api.Header) *string { return &h.Prefix }},
}

// numbers are the fields of numbers; signed ones may be negative.
var numbers = []struct {
	name string
	place
	signed bool
	of     func(h *api.Header) *int
}{
	{"Mode", modeAt, false, func(h *api.Header) *int { return &h.Mode }},
	{"Uid", uidAt, false, func(h *api.Header) *int { return &h.Uid }},
	{"Gid", gidAt, false, func(h *api.Header) *int { return &h.Gid }},
	{"Size", sizeAt, false, func(h *api.Header) *int { return &h.Size }},
	{"Mtime", mtimeAt, true, func(h *api.Header) *int { return &h.Mtime }},
	{"Major", majorAt, false, func(h *api.Header) *int { return &h.Major }},
	{"Minor", minorAt, false, func(h *api.Header) *int { return &h.Minor }},
}

// field writes n by the words of chapter 1; it has a field of that width.
func field(n, width int) string {
	if n >= 0 && n < 1<<(3*(width-1)) {
		return fmt.Sprintf("%0*o\x00", width-1, n)
	}
	return binary(n, width)
}

// binary writes n as its low bytes behind a byte that tells the sign.
func binary(n, width int) string {
	b := make([]byte, width)
	for i := range b {
		b[i] = byte(n >> min(8*(width-1-i), 63))
	}
	b[0] = 128
	if n < 0 {
		b[0] = 255
	}
	return string(b)
}

var octals = regexp.MustCompile(`^[0-7]+\x00$`)

// value reads a field by the words of chapter 1.
func value(s string) (int, bool) {
	if octals.MatchString(s) {
		n := 0
		for i := range len(s) - 1 {
			n = 8*n + int(s[i]-'0')
		}
		return n, true
	}
	n := 0
	if s[0] == 255 {
		n = -1
	}
	for i := 1; i < len(s); i++ {
		n = n<<8 + int(s[i])
	}
	// Of a number that has an octal field, or more than 64 bits, this is false.
	return n, field(n, len(s)) == s
}

// with puts s in a block, from the index at on.
func with(block string, at int, s string) string {
	return block[:at] + s + block[at+len(s):]
}

// sum adds up the bytes of a block, its checksum's as spaces.
func sum(block string) int {
	n := 0
	for i := range len(block) {
		if i >= 148 && i < 156 {
			n += ' '
		} else {
			n += int(block[i])
		}
	}
	return n
}

// sealed puts the right checksum in a block.
func sealed(block string) string {
	return with(block, sumAt.at, fmt.Sprintf("%06o\x00 ", sum(block)))
}

// unsealed writes a header, valid or not, whose texts fit, without a checksum.
func unsealed(h api.Header) string {
	s := strings.Repeat("\x00", 512)
	for _, f := range texts {
		s = with(s, f.at, *f.of(&h))
	}
	for _, f := range numbers {
		s = with(s, f.at, field(*f.of(&h), f.width))
	}
	s = with(s, typeAt.at, string([]byte{h.Type}))
	return with(s, magicAt.at, "ustar\x0000")
}

func block(h api.Header) string { return sealed(unsealed(h)) }

// want is what Get answers, by the words of the chapter.
func want(s string) (api.Header, api.Errno) {
	if len(s) < 512 {
		return api.Header{}, api.ErrMore
	}
	s = s[:512]
	if strings.Trim(s, "\x00") == "" {
		return api.Header{}, api.ErrNone
	}
	none := api.Header{}
	if s != sealed(s) || s[257:265] != "ustar\x0000" || strings.Trim(s[500:], "\x00") != "" {
		return none, api.ErrForm
	}
	h := api.Header{Type: s[156]}
	for _, f := range texts {
		t := strings.TrimRight(s[f.at:f.at+f.width], "\x00")
		if strings.Contains(t, "\x00") {
			return none, api.ErrForm
		}
		*f.of(&h) = t
	}
	for _, f := range numbers {
		n, ok := value(s[f.at : f.at+f.width])
		if !ok || n < 0 && !f.signed {
			return none, api.ErrForm
		}
		*f.of(&h) = n
	}
	return h, api.OK
}

// gets tells a fault if Get answers otherwise.
func gets(t *testing.T, s string, h api.Header, e api.Errno) {
	t.Helper()
	if gotH, gotE := Get(s); gotH != h || gotE != e {
		t.Errorf("7.2: Get(%q) = %+v, %d; want %+v, %d", s[:min(len(s), 600)], gotH, gotE, h, e)
	}
}

// agrees tells a fault if Get answers otherwise than by the words.
func agrees(t *testing.T, s string) api.Errno {
	t.Helper()
	h, e := want(s)
	gets(t, s, h, e)
	return e
}

// refuses tells a fault if a block is read as a header, whatever follows.
func refuses(t *testing.T, s string) {
	t.Helper()
	if len(s) != 512 {
		t.Fatalf("the test writes %d bytes", len(s))
	}
	for _, behind := range []string{"", "\x00", block(api.Header{Name: "a"})} {
		gets(t, s+behind, api.Header{}, api.ErrForm)
	}
}

// puts tells a fault if h is not valid, or is encoded or read otherwise.
func puts(t *testing.T, h api.Header) {
	t.Helper()
	if !May(h) {
		t.Errorf("7.1: May(%+v) is false", h)
	}
	s := Put(h)
	if s != block(h) {
		t.Errorf("7.1: Put(%+v) = %q; want %q", h, s, block(h))
	}
	if len(s) != 512 {
		t.Fatalf("7.1: Put(%+v) has %d bytes", h, len(s))
	}
	for _, behind := range []string{"", "\x00", "x", s, strings.Repeat("\x00", 512), strings.Repeat("\xff", 4096)} {
		if got, e := Get(s + behind); got != h || e != api.OK {
			t.Errorf("7.4: Get(Put(h)) = %+v, %d; want %+v", got, e, h)
		}
	}
	gets(t, s[:511], api.Header{}, api.ErrMore)
}

// invalid tells a fault if h is valid.
func invalid(t *testing.T, h api.Header) {
	t.Helper()
	if May(h) {
		t.Errorf("7.1: May(%.900q) is true", fmt.Sprint(h))
	}
	if s := Put(h); s != "" {
		t.Errorf("7.1: Put(%.900q) = %q; it is not valid", fmt.Sprint(h), s)
	}
}

func rep(s string, n int) string { return strings.Repeat(s, n) }

// some are headers of the usual kinds.
func some() []api.Header {
	return []api.Header{
		{},
		{Name: "notes.txt", Mode: 0o644, Uid: 1000, Gid: 50, Size: 5, Mtime: 1700000000, Type: '0', Uname: "ann", Gname: "staff"},
		{Name: "a/b/", Mode: 0o755, Type: '5'},
		{Name: "link", Link: "../a/b", Mode: 0o777, Type: '2', Mtime: 1},
		{Name: "hard", Link: rep("l", 100), Type: '1', Prefix: "p"},
		{Name: "tty", Type: '3', Mode: 0o620, Major: 4, Minor: 64},
		{Name: "sda", Type: '4', Mode: 0o660, Major: 1<<21 - 1, Minor: 1<<21 - 1},
		{Name: "PaxHeaders", Mode: 420, Type: 'x', Size: 1 << 16},
		{Name: rep("n", 100), Prefix: rep("p", 155), Link: rep("l", 100), Uname: rep("u", 32), Gname: rep("g", 32), Type: '0', Mode: 0o7777, Uid: math.MaxInt32, Gid: 1 << 21, Size: 1<<33 - 1, Mtime: 1<<33 - 1},
		{Name: rep("\xff", 100), Prefix: rep("\xff", 155), Link: rep("\xff", 100), Uname: rep("\xff", 32), Gname: rep("\xff", 32), Type: 255, Mode: 1<<56 - 1, Uid: 1<<56 - 1, Gid: 1<<56 - 1, Size: math.MaxInt, Mtime: -1, Major: 1<<56 - 1, Minor: 1<<56 - 1},
		{Name: "\xc3\xa4\xe2\x82\xac", Type: 0, Mtime: -1 << 40},
		{Name: "/", Prefix: "/", Link: "/", Uname: " ", Gname: "\n"},
		{Mtime: math.MinInt},
	}
}

func TestExamples(t *testing.T) {
	invalid(t, api.Header{Size: -1})
	puts(t, api.Header{Mtime: -1})
	invalid(t, api.Header{Name: rep("n", 101)})
	gets(t, rep("\x00", 512), api.Header{}, api.ErrNone)
	splits(t, rep("n", 100), "", rep("n", 100), true)
	if got := Join(api.Header{Prefix: "a", Name: "b"}); got != "a/b" {
		t.Errorf("7.3: Join of a and b = %q", got)
	}
}

// Blocks that are written out here, with the checksums that others reckon.
func TestKnown(t *testing.T) {
	z := func(n int) string { return rep("\x00", n) }
	file := "notes.txt" + z(91) + "0000640\x000001750\x000000062\x00" + "00000000005\x0014524770400\x00" + "012675\x00 0" + z(100) +
		"ustar\x0000ann" + z(29) + "staff" + z(27) + "0000000\x000000000\x00" + z(155) + z(12)
	h := api.Header{Name: "notes.txt", Mode: 0o640, Uid: 1000, Gid: 50, Size: 5, Mtime: 1700000000, Type: '0', Uname: "ann", Gname: "staff"}
	if got := Put(h); got != file {
		t.Errorf("7.1: Put of a file = %q; want %q", got, file)
	}
	gets(t, file, h, api.OK)
	// 559 for `ustar` and 96 for `00`, 256 for the spaces, 48 for each of the
	// 57 digits.
	zero := z(100) + "0000000\x000000000\x000000000\x00" + "00000000000\x0000000000000\x00" + "007077\x00 " + z(101) +
		"ustar\x0000" + z(64) + "0000000\x000000000\x00" + z(155) + z(12)
	if got := Put(api.Header{}); got != zero {
		t.Errorf("7.1: Put of the zero header = %q; want %q", got, zero)
	}
	gets(t, zero, api.Header{}, api.OK)
	// Added up by hand too: 110 for Name, 350, 160, 1020, 528 and 3059 for the
	// numbers, 256 for the spaces, 49 for Type, 264 for Link, 655 for the magic,
	// 672 for Major and Minor, and 272 for Prefix are 7395.
	link := "n" + z(99) + "0000644\x00" + "\x80\x00\x00\x00\x00\x20\x00\x00" + "\x80\x00\x00\x00\x7f\xff\xff\xff" +
		"00000000000\x00" + "\xff\xff\xff\xff\xff\xff\xff\xff\xff\xff\xff\xfe" + "016343\x00 1" + "l/m" + z(97) +
		"ustar\x0000" + z(64) + "0000000\x000000000\x00" + "p/q" + z(152) + z(12)
	h = api.Header{Name: "n", Mode: 0o644, Uid: 1 << 21, Gid: math.MaxInt32, Mtime: -2, Type: '1', Link: "l/m", Prefix: "p/q"}
	if got := Put(h); got != link {
		t.Errorf("7.1: Put of a link = %q; want %q", got, link)
	}
	gets(t, link, h, api.OK)
}

// The library's writer of the same format makes the same blocks.
func TestAgainstTheLibrary(t *testing.T) {
	for _, c := range []struct{ h, split api.Header }{
		{h: some()[1]}, {h: some()[2]}, {h: some()[3]}, {h: some()[5]}, {h: some()[6]},
		{h: api.Header{Name: rep("n", 100), Type: '6', Mode: 0o600, Mtime: 1<<33 - 1}},
		{h: api.Header{Name: rep("n", 100), Prefix: rep("p", 155), Type: '0', Mode: 0o600, Uid: 1<<21 - 1, Gid: 1<<21 - 1, Size: 1<<33 - 1, Mtime: 7, Uname: rep("u", 32), Gname: rep("g", 32)}},
		{h: api.Header{Name: rep("n", 98), Prefix: "pp", Type: '1', Link: rep("l", 100), Mode: 1, Mtime: 7}},
	} {
		h := c.h
		var out bytes.Buffer
		e := tar.NewWriter(&out).WriteHeader(&tar.Header{
			Format: tar.FormatUSTAR, Typeflag: h.Type, Name: Join(h), Linkname: h.Link, Size: int64(h.Size), Mode: int64(h.Mode),
			Uid: h.Uid, Gid: h.Gid, Uname: h.Uname, Gname: h.Gname, ModTime: time.Unix(int64(h.Mtime), 0), Devmajor: int64(h.Major), Devminor: int64(h.Minor),
		})
		if e != nil || out.Len() != 512 {
			t.Fatalf("the library writes %d bytes of %+v: %v", out.Len(), h, e)
		}
		if got := Put(h); got != out.String() {
			t.Errorf("7.1: Put(%+v) = %q; the library writes %q", h, got, out.String())
		}
		gets(t, out.String(), h, api.OK)
	}
}

func TestUsual(t *testing.T) {
	for _, h := range some() {
		puts(t, h)
	}
	// The greatest sum that a block can have.
	most := some()[9]
	if s := Put(most); s[148:156] != fmt.Sprintf("%06o\x00 ", sum(s)) || sum(s) < 1<<16 {
		t.Errorf("7.1: the checksum of %d = %q", sum(s), s[148:156])
	}
}

func TestTexts(t *testing.T) {
	for _, f := range texts {
		for _, base := range some() {
			for _, n := range []int{0, 1, 2, f.width - 1, f.width} {
				h := base
				*f.of(&h) = rep("t", n)
				puts(t, h)
				// Its place, and all other places as they were.
				s := rep("t", n) + rep("\x00", f.width-n)
				if got := Put(h); got != sealed(with(Put(base), f.at, s)) {
					t.Errorf("7.1: Put with a %s of %d bytes = %q", f.name, n, got)
				}
			}
			for _, n := range []int{f.width + 1, f.width + 2, 2 * f.width, 156, 512, 1 << 16} {
				if n > f.width {
					h := base
					*f.of(&h) = rep("t", n)
					invalid(t, h)
					*f.of(&h) = rep("t/", n)
					invalid(t, h)
				}
			}
		}
	}
}

// Every byte may stand in a text, but 0.
func TestBytesOfTexts(t *testing.T) {
	for _, f := range texts {
		for n := range 256 {
			c := string([]byte{byte(n)})
			for _, s := range []string{c, c + "t", "t" + c, "t" + c + "t", c + c, rep("t", f.width-1) + c, c + rep("t", f.width-1), rep(c, f.width)} {
				h := api.Header{Name: "n"}
				*f.of(&h) = s
				if n > 0 {
					puts(t, h)
					continue
				}
				invalid(t, h)
			}
		}
		h := api.Header{}
		*f.of(&h) = rep("t", f.width) + "\x00"
		invalid(t, h)
	}
}

func TestNumbers(t *testing.T) {
	for _, f := range numbers {
		good := []int{0, 1, 7, 8, 0o644, 1<<21 - 1, 1 << 21, 1<<32 + 5, 1<<33 - 1, 1 << 33, 1<<40 - 1, 1<<56 - 1}
		beyond := []int{1 << 56, 1<<56 + 1, 1 << 60, math.MaxInt - 1, math.MaxInt}
		below := []int{-1, -2, -256, -1 << 21, -1 << 56, -1<<56 - 1, math.MinInt + 1, math.MinInt}
		if f.width == 12 {
			good, beyond = append(good, beyond...), nil
		}
		if f.signed {
			good, below = append(good, below...), nil
		}
		for _, base := range some() {
			for _, n := range good {
				h := base
				*f.of(&h) = n
				puts(t, h)
				if got := Put(h); got != sealed(with(Put(base), f.at, field(n, f.width))) {
					t.Errorf("7.1: Put with a %s of %d = %q", f.name, n, got)
				}
			}
			for _, n := range append(beyond, below...) {
				h := base
				*f.of(&h) = n
				invalid(t, h)
			}
		}
	}
}

func TestTypes(t *testing.T) {
	for n := range 256 {
		for _, h := range some() {
			h.Type = byte(n)
			puts(t, h)
			if s := Put(h); s[156] != byte(n) {
				t.Errorf("7.1: Put with the Type %d has %d there", n, s[156])
			}
		}
	}
}

// More than one thing may be wrong.
func TestInvalid(t *testing.T) {
	for _, a := range texts {
		for _, b := range numbers {
			h := some()[1]
			*a.of(&h) = rep("t", a.width+1)
			*b.of(&h) = -1
			invalid(t, h)
			*a.of(&h) = "\x00"
			invalid(t, h)
		}
	}
}

// Too few bytes go ahead of all else, bytes 0 ahead of the form.
func TestErrors(t *testing.T) {
	good := Put(some()[1])
	for n := range 512 {
		for _, s := range []string{good, rep("\x00", 512), rep("x", 512), rep("\xff", 512)} {
			gets(t, s[:n], api.Header{}, api.ErrMore)
		}
	}
	for _, behind := range []string{"", "\x00", "x", good, rep("\x00", 511), rep("\x00", 512), rep("x", 5000)} {
		gets(t, rep("\x00", 512)+behind, api.Header{}, api.ErrNone)
		gets(t, good+behind, some()[1], api.OK)
		for _, c := range []string{"x", " ", "0", "\x01", "\x80", "\xff"} {
			gets(t, rep(c, 512)+behind, api.Header{}, api.ErrForm)
		}
	}
	for i := range 512 {
		for _, c := range []string{"\x01", "0", "\xff"} {
			refuses(t, with(rep("\x00", 512), i, c))
			refuses(t, sealed(with(rep("\x00", 512), i, c)))
		}
	}
	// A block is read from the first byte on.
	gets(t, "\x00"+good, api.Header{}, api.ErrForm)
	gets(t, good[1:]+"\x00", api.Header{}, api.ErrForm)
	gets(t, rep("\x00", 512)+good, api.Header{}, api.ErrNone)
}

// With one byte turned the checksum is wrong; with the checksum mended too, what
// is read is a header just if the block says one.
func TestTurned(t *testing.T) {
	for k, h := range some() {
		// All turns of each place for one header, some of them for the others.
		step := 32
		if k == 1 {
			step = 1
		}
		good := Put(h)
		met := map[api.Errno]int{}
		for i := range 512 {
			for by := 1; by < 256; by += step {
				turned := with(good, i, string([]byte{good[i] ^ byte(by)}))
				gets(t, turned, api.Header{}, api.ErrForm)
				met[agrees(t, sealed(turned))]++
			}
		}
		if met[api.OK] == 0 || met[api.ErrForm] == 0 {
			t.Errorf("the test meets %v in turned blocks of %+v", met, h)
		}
	}
}

// The right number, written in another way, and near numbers.
func TestChecksums(t *testing.T) {
	for _, h := range some() {
		s := Put(h)
		n := sum(s)
		for _, c := range []string{
			fmt.Sprintf("%06o \x00", n), fmt.Sprintf("%06o\x00\x00", n), fmt.Sprintf("%06o  ", n), fmt.Sprintf("%07o\x00", n), fmt.Sprintf("%07o ", n), fmt.Sprintf("%08o", n),
			fmt.Sprintf("%6o\x00 ", n), fmt.Sprintf("%-6o\x00 ", n), fmt.Sprintf(" %5o\x00 ", n), fmt.Sprintf("\x00%06o ", n), fmt.Sprintf(" %06o\x00", n), fmt.Sprintf("+%05o\x00 ", n), fmt.Sprintf("%06o\x000", n),
			fmt.Sprintf("%06d\x00 ", n), fmt.Sprintf("%06x\x00 ", n), fmt.Sprintf("%06o\n ", n), binary(n, 8),
			fmt.Sprintf("%06o\x00 ", n+1), fmt.Sprintf("%06o\x00 ", n-1), fmt.Sprintf("%06o\x00 ", 2*n), "000000\x00 ", "        ", rep("\x00", 8), rep("\xff", 8),
		} {
			if bytes := with(s, sumAt.at, (c + "        ")[:8]); bytes != s {
				refuses(t, bytes)
			}
		}
		// The sum of the bytes with the checksum's own ones, or with bytes 0 there.
		own := n - 256
		for i := 148; i < 156; i++ {
			own += int(s[i])
		}
		refuses(t, with(s, sumAt.at, fmt.Sprintf("%06o\x00 ", own)))
		refuses(t, with(s, sumAt.at, fmt.Sprintf("%06o\x00 ", n-256)))
	}
	// Bytes that are counted as signed ones.
	s := Put(some()[10])
	refuses(t, with(s, sumAt.at, fmt.Sprintf("%06o\x00 ", sum(s)-5*256)))
}

// Each number in writings that Field does not return, and those that may not be
// negative as such.
func TestOtherWritings(t *testing.T) {
	for _, base := range some() {
		for _, f := range numbers {
			s := Put(base)
			width := f.width - 1
			for _, n := range []int{0, 7, 0o644, 1<<21 - 1} {
				for _, c := range []string{
					binary(n, f.width), fmt.Sprintf("%*o\x00", width, n), fmt.Sprintf("%0*o ", width, n), fmt.Sprintf("%0*o", f.width, n),
					fmt.Sprintf("%0*o \x00", width-1, n), fmt.Sprintf("%0*o\x00\x00", width-1, n), fmt.Sprintf("%-*o\x00", width, n), fmt.Sprintf("%0*o8\x00", width-1, 1),
				} {
					if c == field(n, f.width) || len(c) != f.width {
						continue
					}
					refuses(t, sealed(with(s, f.at, c)))
				}
			}
			for _, c := range []string{"", " ", "0", "x", "\xfe", "\x81"} {
				refuses(t, sealed(with(s, f.at, (rep(c, f.width) + rep("\x00", f.width))[:f.width])))
			}
			for _, n := range []int{-1, -2, -256, -1 << 56} {
				b := sealed(with(s, f.at, binary(n, f.width)))
				if !f.signed {
					refuses(t, b)
					continue
				}
				h := base
				h.Mtime = n
				gets(t, b, h, api.OK)
			}
		}
		// Numbers of more than 64 bits.
		for _, c := range []string{"\x80\x00\x00\x00\x80\x00\x00\x00\x00\x00\x00\x00", "\x80\x01\x00\x00\x00\x00\x00\x00\x00\x00\x00\x00", "\xff\xff\xff\xff\x7f\xff\xff\xff\xff\xff\xff\xff", "\xff\x00\x00\x00\x00\x00\x00\x00\x00\x00\x00\x00"} {
			refuses(t, sealed(with(Put(base), sizeAt.at, c)))
			refuses(t, sealed(with(Put(base), mtimeAt.at, c)))
		}
	}
}

// Bytes behind the first byte 0 of a text, and in the last 12 bytes.
func TestBytesBehind(t *testing.T) {
	for _, f := range append(texts, struct {
		name string
		place
		of func(h *api.Header) *string
	}{"unused", unusedAt, nil}) {
		for n := range f.width - 1 {
			h := api.Header{Name: "n"}
			if f.of != nil {
				*f.of(&h) = rep("t", n)
			} else if n > 0 {
				break
			}
			s := Put(h)
			for i := f.at + n + 1; i < f.at+f.width; i++ {
				refuses(t, sealed(with(s, i, "x")))
				refuses(t, sealed(with(s, i, rep("\xff", f.at+f.width-i))))
			}
		}
	}
	refuses(t, sealed(with(Put(some()[1]), 500, "x")))
	refuses(t, sealed(with(Put(some()[1]), 500, " ")))
}

func TestMagic(t *testing.T) {
	for _, h := range some() {
		for _, c := range []string{"ustar  \x00", "ustar\x00\x00\x00", "ustar\x0001", "ustar\x000\x00", "ustar\x00  ", "ustar 00", "USTAR\x0000", "Ustar\x0000", "ustar000", "\x00\x00\x00\x00\x00\x00\x00\x00", "tar\x00\x00\x0000"} {
			refuses(t, sealed(with(Put(h), magicAt.at, c)))
		}
	}
}

// wantSplit is what Split answers, by the words of the chapter.
func wantSplit(path string) (prefix, name string, ok bool) {
	if len(path) <= 100 {
		return "", path, true
	}
	for i := range len(path) {
		after := path[i+1:]
		if path[i] != '/' || len(after) < 1 || len(after) > 100 {
			continue
		}
		if i == 0 || i > 155 {
			return "", "", false
		}
		return path[:i], after, true
	}
	return "", "", false
}

// splits tells a fault if Split answers otherwise, or if Join of it is not path.
func splits(t *testing.T, path, prefix, name string, ok bool) {
	t.Helper()
	gotPrefix, gotName, gotOk := Split(path)
	if gotPrefix != prefix || gotName != name || gotOk != ok {
		t.Errorf("7.3: Split(%.300q of %d bytes) = %q, %q, %v; want %q, %q, %v", path, len(path), gotPrefix, gotName, gotOk, prefix, name, ok)
	}
	h := api.Header{Prefix: gotPrefix, Name: gotName}
	if gotOk && Join(h) != path {
		t.Errorf("7.4: Join of %q and %q = %q; want %q", gotPrefix, gotName, Join(h), path)
	}
	if !strings.Contains(path, "\x00") && gotOk && !May(h) {
		t.Errorf("7.3: Split(%q) makes a header that is not valid", path)
	}
}

func TestSplit(t *testing.T) {
	n := func(count int) string { return rep("n", count) }
	for _, c := range []struct {
		path, prefix, name string
		ok                 bool
	}{
		{"", "", "", true}, {"/", "", "/", true}, {"a", "", "a", true}, {"a/b", "", "a/b", true}, {"/a", "", "/a", true}, {"a/", "", "a/", true},
		{n(100), "", n(100), true}, {n(101), "", "", false}, {n(256), "", "", false}, {n(4096), "", "", false},
		{n(50) + "/" + n(49), "", n(50) + "/" + n(49), true}, {n(50) + "/" + n(50), n(50), n(50), true},
		{"/" + n(99), "", "/" + n(99), true}, {n(99) + "/", "", n(99) + "/", true}, {rep("/", 100), "", rep("/", 100), true},
		// It begins with `/`: what comes later is not tried.
		{"/" + n(100), "", "", false}, {"/" + n(49) + "/" + n(50), "", "", false}, {"//" + n(99), "", "", false}, {rep("/", 101), "", "", false},
		{"/" + n(101), "", "", false}, {"/" + n(50) + "/" + n(50), "/" + n(50), n(50), true}, {"//" + n(100), "/", n(100), true},
		// It ends with `/`.
		{n(100) + "/", "", "", false}, {n(200) + "/", "", "", false}, {n(50) + "/" + n(49) + "/", n(50), n(49) + "/", true}, {n(101) + "//", n(101), "/", true}, {n(1) + "/" + n(100) + "/", "", "", false},
		{n(155) + "//", n(155), "/", true}, {n(156) + "//", "", "", false},
		// Several in a row.
		{n(10) + "//" + n(99), n(10), "/" + n(99), true}, {n(10) + "//" + n(100), n(10) + "/", n(100), true}, {n(10) + "///" + n(100), n(10) + "//", n(100), true}, {rep("/", 102), "/", rep("/", 100), true}, {rep("/", 256), rep("/", 155), rep("/", 100), true}, {rep("/", 257), "", "", false},
		// 101 bytes behind the first, 100 behind the second.
		{"a/" + "/" + n(100), "a/", n(100), true}, {"a/b/" + n(98), "a", "b/" + n(98), true}, {"a/b/" + n(99), "a/b", n(99), true}, {"aa/" + n(100), "aa", n(100), true}, {"aa/" + n(101), "", "", false},
		// 155 bytes ahead, and one more.
		{n(155) + "/" + n(100), n(155), n(100), true}, {n(155) + "/n", n(155), "n", true}, {n(155) + "/", "", "", false}, {n(155) + "/" + n(101), "", "", false},
		{n(156) + "/" + n(100), "", "", false}, {n(156) + "/n", "", "", false}, {n(156) + "/" + n(50) + "/n", "", "", false}, {n(155) + "/" + n(50) + "/n", n(155), n(50) + "/n", true},
		{n(100) + "/" + n(55) + "/n", n(100), n(55) + "/n", true}, {n(54) + "/" + n(100) + "/n", n(54) + "/" + n(100), "n", true},
		{"a/" + n(153) + "/" + n(100), "a/" + n(153), n(100), true}, {"a/" + n(154) + "/" + n(100), "", "", false},
	} {
		splits(t, c.path, c.prefix, c.name, c.ok)
		prefix, name, ok := wantSplit(c.path)
		splits(t, c.path, prefix, name, ok)
	}
}

// One `/` or two at all places of paths of all lengths near the edges.
func TestSplitPlaces(t *testing.T) {
	met := map[bool]int{}
	for _, n := range []int{1, 99, 100, 101, 102, 103, 154, 155, 156, 157, 200, 201, 255, 256, 257, 258, 300} {
		for i := range n {
			one := with(rep("n", n), i, "/")
			for j := i; j < n; j++ {
				path := with(one, j, "/")
				prefix, name, ok := wantSplit(path)
				splits(t, path, prefix, name, ok)
				met[ok]++
			}
		}
	}
	if met[true] == 0 || met[false] == 0 {
		t.Errorf("the test meets %v", met)
	}
	for _, path := range []string{rep("a/", 2048), rep("/", 1<<20), rep("n", 1<<20), rep("n", 1<<20) + "/n", "a/" + rep("n", 1<<20)} {
		splits(t, path, "", "", false)
	}
	random := rand.New(rand.NewSource(7))
	for range 20000 {
		path := make([]byte, random.Intn(300))
		for i := range path {
			path[i] = "/nnnnnnnnnnnnnnnn\x00\xff.."[random.Intn(21)]
		}
		prefix, name, ok := wantSplit(string(path))
		splits(t, string(path), prefix, name, ok)
	}
}

func TestJoin(t *testing.T) {
	for _, c := range []struct{ prefix, name, path string }{
		{"", "", ""}, {"", "n", "n"}, {"", "/n", "/n"}, {"p", "", "p/"}, {"p", "n", "p/n"}, {"/", "n", "//n"}, {"p/", "/n", "p///n"}, {"a/b", "c/d", "a/b/c/d"},
		{rep("p", 155), rep("n", 100), rep("p", 155) + "/" + rep("n", 100)},
		// Nothing is asked of the header.
		{rep("p", 300), rep("n", 300), rep("p", 300) + "/" + rep("n", 300)}, {"\x00", "\x00", "\x00/\x00"},
	} {
		for _, h := range append(some(), api.Header{Uid: -1, Link: "\x00"}) {
			h.Prefix, h.Name = c.prefix, c.name
			if got := Join(h); got != c.path {
				t.Errorf("7.3: Join of %q and %q = %q; want %q", c.prefix, c.name, got, c.path)
			}
		}
	}
}

// Headers of mixed texts and numbers.
func TestBack(t *testing.T) {
	random := rand.New(rand.NewSource(7))
	for range 3000 {
		h := api.Header{Type: byte(random.Intn(256))}
		for _, f := range texts {
			b := make([]byte, random.Intn(f.width+1))
			for i := range b {
				b[i] = byte(1 + random.Intn(255))
			}
			*f.of(&h) = string(b)
		}
		for _, f := range numbers {
			n := int(random.Uint64()) >> random.Intn(64)
			if !f.signed && n < 0 {
				n = ^n
			}
			if f.width == 8 {
				n &= 1<<56 - 1
			}
			*f.of(&h) = n
		}
		puts(t, h)
	}
}

// The way of the chapter: all that is not a header panics inside.
func TestWay(t *testing.T) {
	good := Put(some()[1])
	cases := []struct {
		s     string
		wrong bool
	}{{good, false}, {Put(api.Header{}), false}, {rep("\x00", 512), true}, {rep("x", 512), true}, {with(good, 0, "N"), true}, {with(good, sumAt.at, "0"+good[148:154]+"\x00"), true}}
	for _, c := range []struct {
		at int
		s  string
	}{{50, "x"}, {uidAt.at, binary(5, 8)}, {uidAt.at, binary(-5, 8)}, {sizeAt.at, rep(" ", 12)}, {magicAt.at, "USTAR"}, {500, "x"}} {
		cases = append(cases, struct {
			s     string
			wrong bool
		}{sealed(with(good, c.at, c.s)), true})
	}
	for _, c := range cases {
		func() {
			defer func() {
				if _, is := recover().(noHeader); is != c.wrong {
					t.Errorf("7, Ways: the decoding of %q panics: %v", c.s, is)
				}
			}()
			decode(c.s)
		}()
	}
}

func FuzzGet(f *testing.F) {
	for _, h := range some() {
		s := Put(h)
		f.Add(s, false)
		f.Add(s+"more", true)
		f.Add(s[:511], false)
		f.Add(with(s, 50, "x"), true)
		f.Add(with(s, uidAt.at, binary(5, 8)), true)
	}
	f.Add(rep("\x00", 512), false)
	f.Fuzz(func(t *testing.T, s string, seal bool) {
		if seal && len(s) >= 512 {
			s = sealed(s[:512]) + s[512:]
		}
		agrees(t, s)
	})
}

func FuzzSplit(f *testing.F) {
	for _, path := range []string{"", "a/b", rep("n", 101), "/" + rep("n", 100), rep("n", 155) + "/" + rep("n", 100), rep("n", 100) + "/", rep("/", 200)} {
		f.Add(path)
	}
	f.Fuzz(func(t *testing.T, path string) {
		prefix, name, ok := wantSplit(path)
		splits(t, path, prefix, name, ok)
	})
}
