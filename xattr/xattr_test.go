package xattr

import (
	"encoding/base64"
	"fmt"
	"maps"
	"math/rand"
	"slices"
	"strconv"
	"strings"
	"testing"
	"unsafe"

	"gripsack/api"
	"gripsack/rec"
)

// The two ways in which the Key of a record of an attribute begins.
const (
	schily = "SCHILY.xattr."
	libarc = "LIBARCHIVE.xattr."
)

func rep(s string, n int) string { return strings.Repeat(s, n) }

func one(c byte) string { return string([]byte{c}) }

// xs are attributes: name, value, name, value.
func xs(l ...string) []api.Xattr {
	var out []api.Xattr
	for i := 0; i+1 < len(l); i += 2 {
		out = append(out, api.Xattr{Name: l[i], Value: l[i+1]})
	}
	return out
}

// rs are records: key, value, key, value.
func rs(l ...string) []api.Rec {
	var out []api.Rec
	for i := 0; i+1 < len(l); i += 2 {
		out = append(out, api.Rec{Key: l[i], Value: l[i+1]})
	}
	return out
}

func join(l ...[]api.Rec) []api.Rec { return slices.Concat(l...) }

// coded is the record of an attribute in the second form, by the words.
func coded(name, value string) []api.Rec {
	return rs(libarc+code(name), base64.StdEncoding.EncodeToString([]byte(value)))
}

// code is the percent-encoding of a name, by the words of chapter 4.
func code(s string) string {
	var b strings.Builder
	for _, c := range []byte(s) {
		if c < 33 || c > 126 || c == '%' || c == '=' {
			fmt.Fprintf(&b, "%%%02X", c)
		} else {
			b.WriteByte(c)
		}
	}
	return b.String()
}

// uncode is the name with this encoding: what it says in any case, tried.
func uncode(s string) (string, bool) {
	var b []byte
	for i := 0; i < len(s); i++ {
		c := s[i]
		if c == '%' && i+3 <= len(s) {
			if n, err := strconv.ParseUint(s[i+1:i+3], 16, 8); err == nil {
				c = byte(n)
				i += 2
			}
		}
		b = append(b, c)
	}
	return string(b), code(string(b)) == s
}

// unsixty is what has this encoding; the library lets through ends of lines.
func unsixty(s string) (string, bool) {
	b, err := base64.StdEncoding.Strict().DecodeString(s)
	return string(b), err == nil && !strings.ContainsAny(s, "\r\n")
}

// wantMay, wantRecs and wantFrom answer by the words of the chapter.
func wantMay(l []api.Xattr) bool {
	for i, x := range l {
		if x.Name == "" || strings.Contains(x.Name, "\x00") || len(code(x.Name)) > 238 || len(x.Value) > 4096 {
			return false
		}
		for _, y := range l[:i] {
			if y.Name >= x.Name {
				return false
			}
		}
		if i >= 32 {
			return false
		}
	}
	return true
}

func wantRecs(l []api.Xattr) []api.Rec {
	if !wantMay(l) {
		return nil
	}
	var out []api.Rec
	for _, x := range l {
		if !strings.Contains(x.Name, "=") {
			out = append(out, api.Rec{Key: schily + x.Name, Value: x.Value})
		}
		out = append(out, coded(x.Name, x.Value)...)
	}
	return out
}

func wantFrom(l []api.Rec) ([]api.Xattr, api.Errno) {
	values := map[string]string{}
	for _, r := range l {
		if name, is := strings.CutPrefix(r.Key, schily); is {
			values[name] = r.Value
		} else if rest, is := strings.CutPrefix(r.Key, libarc); is {
			name, ok1 := uncode(rest)
			value, ok2 := unsixty(r.Value)
			if !ok1 || !ok2 {
				return nil, api.ErrForm
			}
			values[name] = value
		}
	}
	var out []api.Xattr
	for _, name := range slices.Sorted(maps.Keys(values)) {
		out = append(out, api.Xattr{Name: name, Value: values[name]})
	}
	if !wantMay(out) {
		return nil, api.ErrForm
	}
	return out, api.OK
}

// cut is what a fault shows of a list.
func cut(l any) string {
	s := fmt.Sprintf("%q", l)
	return fmt.Sprintf("%.300s (%d bytes)", s, len(s))
}

// good tells a fault if l is not valid, has other records than want, or is not
// what these say.
func good(t *testing.T, l []api.Xattr, want []api.Rec) {
	t.Helper()
	if !May(l) {
		t.Errorf("13.1: May(%s) = false", cut(l))
	}
	got := Recs(l)
	if !slices.Equal(got, want) {
		t.Errorf("13.1: Recs(%s) = %s; want %s", cut(l), cut(got), cut(want))
	}
	for _, r := range got {
		if !rec.May(r) {
			t.Errorf("13.1: Recs(%s) has the record %s, which is not valid", cut(l), cut(r))
		}
	}
	if back, e := From(got); e != api.OK || !slices.Equal(back, l) || !Same(back, l) || !Same(l, back) {
		t.Errorf("13.3: From(Recs(%s)) = %s, %d", cut(l), cut(back), e)
	}
}

// wrong tells a fault if l is valid, or has records.
func wrong(t *testing.T, l []api.Xattr) {
	t.Helper()
	if May(l) {
		t.Errorf("13.1: May(%s) = true", cut(l))
	}
	if got := Recs(l); len(got) != 0 {
		t.Errorf("13.1: Recs(%s) = %s; want none", cut(l), cut(got))
	}
}

// agrees tells a fault if May or Recs of l answers otherwise than by the words.
func agrees(t *testing.T, l []api.Xattr) bool {
	t.Helper()
	valid := wantMay(l)
	if valid {
		good(t, l, wantRecs(l))
	} else {
		wrong(t, l)
	}
	return valid
}

// says tells a fault if the records do not say these attributes.
func says(t *testing.T, l []api.Rec, want []api.Xattr) {
	t.Helper()
	if got, e := From(l); e != api.OK || !slices.Equal(got, want) {
		t.Errorf("13.2: From(%s) = %s, %d; want %s", cut(l), cut(got), e, cut(want))
	}
}

// fails tells a fault if From takes the records, or answers any attribute
// beside the error.
func fails(t *testing.T, l []api.Rec) {
	t.Helper()
	if got, e := From(l); e != api.ErrForm || len(got) != 0 {
		t.Errorf("13.2: From(%s) = %s, %d; want none, ErrForm", cut(l), cut(got), e)
	}
}

// fromAgrees tells a fault if From answers otherwise than by the words.
func fromAgrees(t *testing.T, l []api.Rec) bool {
	t.Helper()
	want, e := wantFrom(l)
	if e != api.OK {
		fails(t, l)
	} else {
		says(t, l, want)
		agrees(t, want)
	}
	return e == api.OK
}

// many are n attributes with ascending names.
func many(n int) []api.Xattr {
	var l []api.Xattr
	for i := range n {
		l = append(l, api.Xattr{Name: fmt.Sprintf("user.n%03d", i), Value: strconv.Itoa(i)})
	}
	return l
}

// lists are valid lists of the usual kinds.
func lists() [][]api.Xattr {
	l := [][]api.Xattr{
		nil,
		xs("user.a", "b"),
		xs("a", ""),
		xs("user.comment", "a note\n", "user.mime_type", "text/plain", "user.origin", "https://a.b/?c=d&e=%20"),
		xs("security.selinux", "system_u:object_r:bin_t:s0\x00", "trusted.overlay.opaque", "y", "user.a", "\x00\x01\xff"),
		xs("a=b", "\x00\n"),
		xs("=", "="),
		xs("a", "1", "a=", "2", "a=b", "3", "aa", "4"),
		xs(" ", "1", "%", "2", "=", "3", "A", "4", "\x7f", "5", "\xc3\xa4", "6", "\xff", "7"),
		xs("\x01", "", "\n", "\n"),
		xs("SCHILY.xattr.user.a", "b", "user.LIBARCHIVE.xattr.b", "c"),
		xs("%41", "Yg==", "A", "b"),
		xs("a b", "x y", "a/b", "/", "a:b", ":", "a;b", ";"),
		xs("user.empty", "", "user.full", rep("\xff", 4096)),
		many(32),
	}
	all := ""
	for c := range 256 {
		all += one(byte(c))
	}
	l = append(l, xs("user.all", all), xs("user.all", all+all, "user.b", all[1:], "user.c", all[2:]))
	return l
}

func TestExamples(t *testing.T) {
	wrong(t, xs("user.a", "b", "user.a", "b"))
	wrong(t, xs("user.a", "b", "user.a", "c"))
	good(t, xs("user.a", "b"), rs("SCHILY.xattr.user.a", "b", "LIBARCHIVE.xattr.user.a", "Yg=="))
	says(t, nil, nil)
	for _, l := range lists() {
		got, e := From(Recs(l))
		if e != api.OK || !Same(l, got) {
			t.Errorf("13.2: %s and From of its Recs, %s, are not the Same", cut(l), cut(got))
		}
	}
}

// Lists with their records, written out.
func TestKnown(t *testing.T) {
	for _, c := range []struct {
		l []api.Xattr
		r []api.Rec
	}{
		{nil, nil},
		{[]api.Xattr{}, nil},
		{xs("a", ""), rs("SCHILY.xattr.a", "", "LIBARCHIVE.xattr.a", "")},
		{xs("a", "a"), rs("SCHILY.xattr.a", "a", "LIBARCHIVE.xattr.a", "YQ==")},
		{xs("a", "ab"), rs("SCHILY.xattr.a", "ab", "LIBARCHIVE.xattr.a", "YWI=")},
		{xs("a", "abc"), rs("SCHILY.xattr.a", "abc", "LIBARCHIVE.xattr.a", "YWJj")},
		{xs("a=b", "\x00\n"), rs("LIBARCHIVE.xattr.a%3Db", "AAo=")},
		{xs("=", ""), rs("LIBARCHIVE.xattr.%3D", "")},
		{xs("a", "", "b c", "x"), rs("SCHILY.xattr.a", "", "LIBARCHIVE.xattr.a", "", "SCHILY.xattr.b c", "x", "LIBARCHIVE.xattr.b%20c", "eA==")},
		{xs("%", "\xff", "A", "="), rs("SCHILY.xattr.%", "\xff", "LIBARCHIVE.xattr.%25", "/w==", "SCHILY.xattr.A", "=", "LIBARCHIVE.xattr.A", "PQ==")},
		{xs("a", "1", "a=", "2", "aa", "3"), rs("SCHILY.xattr.a", "1", "LIBARCHIVE.xattr.a", "MQ==", "LIBARCHIVE.xattr.a%3D", "Mg==", "SCHILY.xattr.aa", "3", "LIBARCHIVE.xattr.aa", "Mw==")},
		{xs("\n", "\n", "\xc3\xa4", "\xc3\xa4"), rs("SCHILY.xattr.\n", "\n", "LIBARCHIVE.xattr.%0A", "Cg==", "SCHILY.xattr.\xc3\xa4", "\xc3\xa4", "LIBARCHIVE.xattr.%C3%A4", "w6Q=")},
		{xs("a", "\xfb\xef\xbe", "b", "\xff\xff\xff"), rs("SCHILY.xattr.a", "\xfb\xef\xbe", "LIBARCHIVE.xattr.a", "++++", "SCHILY.xattr.b", "\xff\xff\xff", "LIBARCHIVE.xattr.b", "////")},
		{xs("LIBARCHIVE.xattr.a", "1", "SCHILY.xattr.a", "2"), rs("SCHILY.xattr.LIBARCHIVE.xattr.a", "1", "LIBARCHIVE.xattr.LIBARCHIVE.xattr.a", "MQ==", "SCHILY.xattr.SCHILY.xattr.a", "2", "LIBARCHIVE.xattr.SCHILY.xattr.a", "Mg==")},
	} {
		good(t, c.l, c.r)
		if got := wantRecs(c.l); !slices.Equal(got, c.r) {
			t.Errorf("the words give %s for %s; the table %s", cut(got), cut(c.l), cut(c.r))
		}
		if got, e := wantFrom(c.r); e != api.OK || !slices.Equal(got, c.l) {
			t.Errorf("the words give %s, %d for %s; the table %s", cut(got), e, cut(c.r), cut(c.l))
		}
	}
}

func TestUsual(t *testing.T) {
	for _, l := range lists() {
		if !agrees(t, l) {
			t.Errorf("the words say that %s is not valid", cut(l))
		}
	}
}

// Every byte as a name, in a name, and as a value.
func TestEachByte(t *testing.T) {
	for c := range 256 {
		for _, name := range []string{one(byte(c)), "a" + one(byte(c)), one(byte(c)) + "a", "a" + one(byte(c)) + "b", rep(one(byte(c)), 3)} {
			for _, value := range []string{"", "v", one(byte(c)), "v" + one(byte(c)) + "w"} {
				l := xs(name, value)
				if agrees(t, l) != (c != 0) {
					t.Errorf("the words say otherwise of the name %q", name)
				}
				if got := len(Recs(l)); c == '=' && got != 1 || c != 0 && c != '=' && got != 2 {
					t.Errorf("13.1: %s has %d records", cut(l), got)
				}
				// The first form alone holds a `=` as well; 13.2 asks only for
				// the list.
				if c == 0 {
					fails(t, rs(schily+name, value))
					fails(t, coded(name, value))
				} else {
					says(t, rs(schily+name, value), l)
					says(t, coded(name, value), l)
				}
			}
		}
	}
}

func TestMaxXattrs(t *testing.T) {
	for n := range 40 {
		l := many(n)
		if agrees(t, l) != (n <= 32) {
			t.Errorf("the words say otherwise of %d attributes", n)
		}
		var plain, other []api.Rec
		for _, x := range l {
			plain = append(plain, api.Rec{Key: schily + x.Name, Value: x.Value})
			other = append(other, coded(x.Name, x.Value)...)
		}
		for _, r := range [][]api.Rec{plain, other, join(plain, other), join(other, plain, other)} {
			back := slices.Clone(r)
			slices.Reverse(back)
			if n <= 32 {
				says(t, r, l)
				says(t, back, l)
			} else {
				fails(t, r)
				fails(t, back)
			}
		}
	}
	// One more after 32, one more ahead of all, the 32 again.
	full := Recs(many(32))
	says(t, join(full, full), many(32))
	for _, name := range []string{"a", "user.n0001", "user.n015x", "zz"} {
		fails(t, join(full, rs(schily+name, "")))
		fails(t, join(full, coded(name, "")))
		fails(t, join(rs(schily+name, ""), full))
		fails(t, join(full, rs(schily+name, ""), full))
		fails(t, join(full[:31], coded(name, ""), full[31:]))
		says(t, join(full, rs("x"+schily+name, "")), many(32))
	}
	for _, n := range []int{64, 100, 1000, 100000} {
		wrong(t, many(n))
		fails(t, wantAll(many(n)))
	}
}

// wantAll are the records of both forms of any list, be it valid or not.
func wantAll(l []api.Xattr) []api.Rec {
	var out []api.Rec
	for _, x := range l {
		out = append(out, api.Rec{Key: schily + x.Name, Value: x.Value})
		out = append(out, coded(x.Name, x.Value)...)
	}
	return out
}

// Names whose encoding has 238 bytes and one more, with plain bytes alone and
// with such as become three.
func TestLongNames(t *testing.T) {
	right, long := 0, 0
	for _, c := range []string{"=", " ", "%", "\xff", "\x01", "\n", "\x7f", "\xc3\xa4"} {
		for threes := range 80 {
			for n := 235; n <= 242; n++ {
				ones := n - 3*len(c)*threes
				if ones < 0 {
					continue
				}
				for _, name := range []string{rep(c, threes) + rep("n", ones), rep("n", ones) + rep(c, threes), rep("n", ones/2) + rep(c, threes) + rep("n", ones-ones/2)} {
					if len(code(name)) != n {
						t.Fatalf("the test takes a name of %d bytes for one of %d", len(code(name)), n)
					}
					l := xs(name, "v")
					if agrees(t, l) != (n <= 238) {
						t.Errorf("the words say otherwise of %q", name)
					}
					if n <= 238 {
						right++
						says(t, rs(schily+name, "v"), l)
						says(t, coded(name, "v"), l)
						continue
					}
					long++
					fails(t, rs(schily+name, "v"))
					fails(t, coded(name, "v"))
					fails(t, join(rs(schily+"a", "b"), coded(name, "v"), rs(schily+"z", "b")))
				}
			}
		}
	}
	if right < 1000 || long < 1000 {
		t.Errorf("the test meets %d right and %d long names", right, long)
	}
	for _, n := range []int{238, 239} {
		good := xs(rep("n", 238), "v")
		l := xs("a", "", rep("n", n), "v", "z", "")
		if agrees(t, l) != (n == 238) || !agrees(t, good) {
			t.Errorf("the words say otherwise of %d plain bytes", n)
		}
	}
	for n := 76; n <= 82; n++ {
		if l := xs(rep("=", n), "v"); agrees(t, l) != (n <= 79) {
			t.Errorf("the words say otherwise of %d bytes that become three", n)
		}
	}
	for _, n := range []int{240, 255, 256, 1000, 1 << 16, 1 << 22} {
		for _, c := range []string{"n", "=", "\xff", "%41"} {
			wrong(t, xs(rep(c, n), ""))
			fails(t, rs(schily+rep(c, n), ""))
			fails(t, rs(libarc+rep(c, n), ""))
		}
	}
	// The longest key of a record has just as many bytes as may be.
	key := Recs(xs(rep("n", 238), "v"))[1].Key
	if len(key) != api.MaxName {
		t.Errorf("13.1: the longest key has %d bytes", len(key))
	}
}

func TestLongValues(t *testing.T) {
	for _, c := range []string{"v", "\x00", "\xff", "=", "\n"} {
		for _, n := range []int{0, 1, 2, 3, 4, 255, 256, 4093, 4094, 4095, 4096, 4097, 4098, 4099, 5000, 8192, 1 << 16, 1 << 20} {
			value := rep(c, n)
			for _, l := range [][]api.Xattr{xs("a", value), xs("a=", value), xs("a", "1", "b", value, "c", "2"), xs("a", value, "b", "x"), xs("a", "x", "b", value), xs("a", value, "b", value)} {
				if agrees(t, l) != (n <= 4096) {
					t.Errorf("the words say otherwise of values of %d bytes", n)
				}
				if n <= 4096 {
					says(t, wantAll(l), l)
				} else {
					fails(t, wantAll(l))
					fails(t, wantAll(l)[1:])
				}
			}
		}
	}
	l := many(32)
	for i := range l {
		l[i].Value = rep(one(byte(i)), 4096)
	}
	if !agrees(t, l) {
		t.Errorf("the words say otherwise of 32 full values")
	}
	l[31].Value += "x"
	wrong(t, l)
	fails(t, wantAll(l))
}

// A value that is too long counts only if no later record replaces it.
func TestLongReplaced(t *testing.T) {
	long := rep("v", 4097)
	forms := func(name, value string) [][]api.Rec {
		return [][]api.Rec{rs(schily+name, value), coded(name, value)}
	}
	for _, name := range []string{"a", "a b", "a=b", "\xff"} {
		for _, early := range forms(name, long) {
			fails(t, early)
			for _, late := range forms(name, "1") {
				says(t, join(early, late), xs(name, "1"))
				says(t, join(early, early, rs("path", long), late), xs(name, "1"))
				fails(t, join(late, early))
				fails(t, join(early, late, early))
				for _, other := range forms("other", "2") {
					says(t, join(other, early, late, other), sorted(xs(name, "1", "other", "2")))
					says(t, join(early, other, late), sorted(xs(name, "1", "other", "2")))
					fails(t, join(early, other))
					fails(t, join(late, other, early))
				}
			}
		}
	}
}

func sorted(l []api.Xattr) []api.Xattr {
	slices.SortFunc(l, func(a, b api.Xattr) int { return strings.Compare(a.Name, b.Name) })
	return l
}

// A name that is wrong stays so, whatever comes later.
func TestWrongNames(t *testing.T) {
	for _, name := range []string{"", "\x00", "a\x00", "\x00a", "a\x00b", "user.\x00", rep("n", 237) + "\x00", rep("n", 239), rep("=", 80), rep("\x00", 300)} {
		wrong(t, xs(name, ""))
		wrong(t, xs(name, "v"))
		wrong(t, sorted(xs(name, "v", "a", "1", "zz", "2")))
		wrong(t, sorted(xs(name, "v", "=", "1", "\xff\xff", "2")))
		for _, bad := range [][]api.Rec{rs(schily+name, "v"), coded(name, "v"), rs(schily+name, ""), coded(name, ""), rs(schily+name, rep("v", 4097))} {
			fails(t, bad)
			around(t, bad)
		}
	}
}

// around tells a fault if a wrong record is taken ahead of good ones, between
// them, behind them, or if what is good hides it.
func around(t *testing.T, bad []api.Rec) {
	t.Helper()
	good := join(Recs(xs("a", "1", "a=b", "2", "user.a", "3")), rs("path", "p", "mtime", "5"))
	fails(t, bad)
	fails(t, join(bad, bad))
	for i := range len(good) + 1 {
		fails(t, join(good[:i], bad, good[i:]))
	}
	fails(t, join(good, good, bad, good))
}

func TestWrongOrder(t *testing.T) {
	names := []string{"=", "A", "B", "a", "a=", "aa", "ab", "b", "b\x01", "\xc3\xa4", "\xff"}
	slices.Sort(names)
	for i, a := range names {
		for j, b := range names {
			l := xs(a, "1", b, "2")
			if agrees(t, l) != (i < j) {
				t.Errorf("the words say otherwise of %q ahead of %q", a, b)
			}
			// What the records say has an order of its own.
			if i != j {
				says(t, wantAll(l), sorted(slices.Clone(l)))
				continue
			}
			says(t, wantAll(l), xs(a, "2"))
		}
	}
	for n := 2; n <= 32; n++ {
		for i := range n - 1 {
			l := many(n)
			l[i], l[i+1] = l[i+1], l[i]
			wrong(t, l)
			says(t, wantAll(l), many(n))
			l = many(n)
			l[i+1] = l[i]
			wrong(t, l)
			l[i+1].Value = "other"
			wrong(t, l)
		}
		l := many(n)
		l[0], l[n-1] = l[n-1], l[0]
		wrong(t, l)
	}
}

// What the records of a list say in any order, each form alone and both, with
// other records among them.
func TestAnyOrder(t *testing.T) {
	random := rand.New(rand.NewSource(13))
	others := rs("path", "p", "mtime", "1.5", "SCHILY.acl.access", "u::rw-", "SCHILY.fflags", "uchg", "GRIPSACK.caps", "AAAA", "hdrcharset", "BINARY", "uid", "", "", "", "comment", "LIBARCHIVE.xattr.a")
	for _, l := range lists() {
		var plain, other []api.Rec
		for _, x := range l {
			plain = append(plain, api.Rec{Key: schily + x.Name, Value: x.Value})
			other = append(other, coded(x.Name, x.Value)...)
		}
		for _, r := range [][]api.Rec{plain, other, join(plain, other), join(other, plain), join(plain, plain), Recs(l), wantAll(l)} {
			for range 10 {
				says(t, r, l)
				r = slices.Clone(r)
				random.Shuffle(len(r), func(i, j int) { r[i], r[j] = r[j], r[i] })
				says(t, slices.Insert(slices.Clone(r), random.Intn(len(r)+1), others...), l)
			}
		}
		says(t, join(others, Recs(l), others), l)
	}
	says(t, others, nil)
}

// A later record of a name counts, whichever form it has.
func TestLater(t *testing.T) {
	for _, name := range []string{"a", "user.a", "a b", "a=b", "%", "\xff"} {
		forms := func(value string) [][]api.Rec {
			return [][]api.Rec{rs(schily+name, value), coded(name, value)}
		}
		for _, first := range forms("1") {
			for _, second := range forms("2") {
				says(t, join(first, second), xs(name, "2"))
				says(t, join(second, first), xs(name, "1"))
				says(t, join(first, rs("path", "p"), second), xs(name, "2"))
				for _, third := range forms("") {
					says(t, join(first, second, third), xs(name, ""))
					says(t, join(first, third, second), xs(name, "2"))
					l := join(rs(schily+"\x01", "l"), first, rs(schily+"~~", "r"), second, third, first)
					says(t, l, sorted(xs("\x01", "l", name, "1", "~~", "r")))
				}
			}
		}
	}
	l := rs("SCHILY.xattr.b", "1", "path", "p", "SCHILY.xattr.a", "2", "SCHILY.xattr.b", "3", "LIBARCHIVE.xattr.b", "NA==", "SCHILY.xattr.b%20", "5", "LIBARCHIVE.xattr.b%20", "Ng==")
	says(t, l, xs("a", "2", "b", "4", "b ", "6", "b%20", "5"))
	says(t, rs("SCHILY.xattr.a", "Yg==", "SCHILY.xattr.%41", "c"), xs("%41", "c", "a", "Yg=="))
}

// Keys that are nearly those of an attribute: other records.
func TestOtherKeys(t *testing.T) {
	keys := []string{"", "a", "path", "SCHILY", "SCHILY.", "SCHILY.xattr", "LIBARCHIVE", "LIBARCHIVE.", "LIBARCHIVE.xattr", "xattr.", ".xattr.", "SCHILY.acl.access", "SCHILY.xattrs.", "SCHILY..xattr.", "SCHILY.xattr:", "SCHILYxattr.", "RHT.security.selinux", "GRIPSACK.xattr.", "libarchive.xattr.", "schily.xattr.", "Schily.xattr.", "SCHILY.XATTR.", "LIBARCHIVE.XATTR.", "Libarchive.xattr.", "LIBARCHIVE.creationtime", "LIBARCHIVE.xattr", "\x00", "\xff"}
	for _, form := range []string{schily, libarc} {
		keys = append(keys, " "+form, "\x00"+form, form[1:], form[2:], strings.ToLower(form), strings.ToUpper(form), "."+form)
		for i := range len(form) {
			keys = append(keys, form[:i], form[:i]+form[i+1:])
			for c := range 256 {
				if form[i] != byte(c) {
					keys = append(keys, form[:i]+one(byte(c))+form[i+1:])
				}
			}
		}
	}
	good := Recs(xs("a", "1", "b", "2"))
	for _, key := range keys {
		if strings.HasPrefix(key, schily) || strings.HasPrefix(key, libarc) {
			t.Fatalf("the test takes %q for another key", key)
		}
		for _, rest := range []string{"", "a", "user.a", "=", "%", "\x00"} {
			for _, value := range []string{"", "b", "Yg==", "!", rep("v", 4097)} {
				says(t, rs(key+rest, value), nil)
				says(t, join(rs(key+rest, value), good, rs(key+rest, value)), xs("a", "1", "b", "2"))
			}
		}
	}
	// A point is enough to be one of the two, and then the name is empty.
	fails(t, rs("SCHILY.xattr"+".", "v"))
	fails(t, rs("LIBARCHIVE.xattr"+".", ""))
	says(t, rs("SCHILY.xattr..", "v", "LIBARCHIVE.xattr..", "dw=="), xs(".", "w"))
	// The beginning counts, not what comes later.
	says(t, rs("x.SCHILY.xattr.a", "1", "SCHILY.xattr.LIBARCHIVE.xattr.a", "2"), xs("LIBARCHIVE.xattr.a", "2"))
}

// What stands for a name in the second form must be its encoding.
func TestWrongCodes(t *testing.T) {
	bad := []string{"", "a=", "=", "a=b", "%", "%4", "%41", "%3d", "%3", "%%", "%zz", "%0", "a%", "a%2", "%2g", "%g2", "% 5", "%+5", "%0x", "a b", " a", "a ", "\x00", "a\x00", "%00", "a%00", "\n", "\xff", "a\xff", "\xc3\xa4", "%c3%a4", "%C3%a4", "%E", "%21", "%7E", "%2E", "%2F", "%5F", "%61%62", "a%3", "a%3Db%3d", "%25%", "\x7f", "%u0041", "+ ", "a\tb"}
	for _, c := range bad {
		if name, ok := uncode(c); ok && name != "" && !strings.Contains(name, "\x00") {
			t.Fatalf("the test takes %q for wrong", c)
		}
		around(t, rs(libarc+c, "MQ=="))
		around(t, rs(libarc+c, ""))
		// In the first form it is the name itself, unless that one is wrong too.
		if c != "" && !strings.Contains(c, "\x00") {
			says(t, rs(schily+c, "1"), xs(c, "1"))
		}
	}
	for _, c := range []string{"%3D", "a%3Db", "%25", "%20", "%0A", "%7F", "%FF", "%C3%A4", "%01", "+", "!", "~", "/", "."} {
		if !fromAgrees(t, rs(libarc+c, "MQ==")) {
			t.Errorf("the words say otherwise of %q", c)
		}
	}
}

func TestWrongSixties(t *testing.T) {
	bad := []string{"1", "b", "=", "==", "===", "====", "Y", "YQ", "YQ=", "YQ===", "YR==", "YZ==", "YWI", "YWJ=", "YWI==", "YWJjY", "YWJjYQ=", "YWJjYR==", "!!", "!!!!", "YQ!=", "YQ-=", "YQ_=", "-_-_", "YQ==\n", "\nYQ==", "YQ\n==", "YWJj\r\n", "YQ== ", " YQ==", "Y Q==", "YQ==YQ==", "YWI=YWJj", "YQ==\x00", "\x00\x00\x00\x00", "\xff\xff\xff\xff", "YQ%3D%3D", "yq==x", "A===", "=AAA", "AA=A", "\xc3\xa4\xc3\xa4"}
	for _, s := range bad {
		if _, ok := unsixty(s); ok {
			t.Fatalf("the test takes %q for wrong", s)
		}
		for _, name := range []string{"a", "user.a", "b c", "a=b", "\xff"} {
			around(t, rs(libarc+code(name), s))
			// No other record of that name makes up for it.
			fails(t, join(rs(schily+name, "1"), rs(libarc+code(name), s)))
			fails(t, join(rs(libarc+code(name), s), rs(schily+name, "1")))
			fails(t, join(rs(libarc+code(name), s), coded(name, "1")))
			says(t, rs(schily+name, s), xs(name, s))
		}
	}
}

// Good encodings with a byte turned, put in or left out: by the words.
func TestTurnedRecords(t *testing.T) {
	met := map[bool]int{}
	turned := func(s string, check func(s string)) {
		for i := range len(s) + 1 {
			for c := range 256 {
				check(s[:i] + one(byte(c)) + s[i:])
				if i < len(s) {
					check(s[:i] + one(byte(c)) + s[i+1:])
				}
			}
			check(s[:i])
			check(s[i:])
			if i < len(s) {
				check(s[:i] + s[i+1:])
			}
		}
	}
	for _, l := range [][]api.Xattr{xs("user.a", "b"), xs("a=b", "bc"), xs(" %", "bcd"), xs("\xff", "")} {
		for _, r := range wantAll(l) {
			turned(r.Key, func(s string) { met[fromAgrees(t, rs(s, r.Value))]++ })
			turned(r.Value, func(s string) { met[fromAgrees(t, rs(r.Key, s))]++ })
		}
	}
	if met[true] < 10000 || met[false] < 10000 {
		t.Errorf("the test meets %v", met)
	}
}

func TestSame(t *testing.T) {
	a := xs("a", "1", "b", "2", "c", "3")
	for _, c := range []struct {
		a, b []api.Xattr
		want bool
	}{
		{nil, nil, true}, {nil, []api.Xattr{}, true}, {[]api.Xattr{}, []api.Xattr{}, true}, {[]api.Xattr{}, a[:0], true},
		{a, xs("a", "1", "b", "2", "c", "3"), true}, {a, a, true}, {a[:1], xs("a", "1"), true},
		{a, nil, false}, {a, a[:2], false}, {a, a[1:], false}, {a, xs("a", "1", "b", "2", "c", "3", "d", "4"), false}, {xs("", ""), nil, false}, {xs("", "", "", ""), xs("", ""), false},
		{a, xs("x", "1", "b", "2", "c", "3"), false}, {a, xs("a", "1", "x", "2", "c", "3"), false}, {a, xs("a", "1", "b", "2", "x", "3"), false},
		{a, xs("a", "x", "b", "2", "c", "3"), false}, {a, xs("a", "1", "b", "x", "c", "3"), false}, {a, xs("a", "1", "b", "2", "c", "x"), false},
		{a, xs("b", "2", "a", "1", "c", "3"), false}, {a, xs("a", "1", "c", "3", "b", "2"), false}, {a, xs("c", "3", "b", "2", "a", "1"), false},
		{xs("a", "1"), xs("A", "1"), false}, {xs("a", "x"), xs("a", "X"), false}, {xs("a", "1"), xs("1", "a"), false}, {xs("ab", "c"), xs("a", "bc"), false}, {xs("a", ""), xs("a", "\x00"), false}, {xs("a", ""), xs("a ", ""), false}, {xs("\xc3\xa4", "\xc3\xa4"), xs("\xc3\xa4", "a\xcc\x88"), false},
		// Nothing asks for valid lists.
		{xs("a", "1", "a", "1"), xs("a", "1", "a", "1"), true}, {xs("a", "1", "a", "1"), xs("a", "1"), false}, {xs("b", "2", "a", "1"), xs("b", "2", "a", "1"), true}, {xs("", "1"), xs("", "1"), true}, {xs("\x00", ""), xs("\x00", ""), true}, {xs("\x00", ""), xs("", ""), false},
		{many(100), many(100), true}, {many(100), many(99), false}, {xs(rep("n", 5000), rep("v", 5000)), xs(rep("n", 5000), rep("v", 5000)), true}, {xs(rep("n", 5000), rep("v", 5000)), xs(rep("n", 5000), rep("v", 4999)+"w"), false},
	} {
		if got := Same(c.a, c.b); got != c.want {
			t.Errorf("13.2: Same(%s, %s) = %v", cut(c.a), cut(c.b), got)
		}
		if got := Same(c.b, c.a); got != c.want {
			t.Errorf("13.2: Same(%s, %s) = %v", cut(c.b), cut(c.a), got)
		}
	}
	all := lists()
	for i, a := range all {
		for j, b := range all {
			if Same(a, slices.Clone(b)) != (i == j) {
				t.Errorf("13.2: Same(%s, %s) = %v", cut(a), cut(b), i != j)
			}
		}
	}
}

// mixedName returns a name, of which some are wrong.
func mixedName(random *rand.Rand) string {
	pieces := []string{"a", "b", "user.", "=", "%", "%41", " ", "\xff", "\n", "A"}
	switch random.Intn(60) {
	case 0:
		return ""
	case 1:
		return "a\x00"
	case 2:
		return rep("n", 234+random.Intn(6))
	case 3:
		return rep("=", 77+random.Intn(4))
	}
	s := ""
	for range 1 + random.Intn(2) {
		s += pieces[random.Intn(len(pieces))]
	}
	return s
}

func mixedValue(random *rand.Rand) string {
	if random.Intn(40) == 0 {
		return rep("v", 4095+random.Intn(3))
	}
	b := make([]byte, random.Intn(6))
	random.Read(b)
	return string(b)
}

func TestMixedLists(t *testing.T) {
	random := rand.New(rand.NewSource(131))
	met := map[bool]int{}
	for range 20000 {
		var l []api.Xattr
		for range random.Intn(8) {
			l = append(l, api.Xattr{Name: mixedName(random), Value: mixedValue(random)})
		}
		if random.Intn(4) > 0 {
			l = slices.CompactFunc(sorted(l), func(a, b api.Xattr) bool { return a.Name == b.Name })
		}
		met[agrees(t, l)]++
	}
	if met[true] < 5000 || met[false] < 2000 {
		t.Errorf("the test meets %v", met)
	}
}

func mixedRec(random *rand.Rand) []api.Rec {
	name, value := mixedName(random), mixedValue(random)
	switch random.Intn(20) {
	case 0:
		return rs(libarc+name, value)
	case 1:
		return rs("path", value)
	case 2:
		return rs(strings.ToLower(schily)+name, value)
	}
	if random.Intn(2) == 0 {
		return coded(name, value)
	}
	return rs(schily+name, value)
}

func TestMixedRecords(t *testing.T) {
	random := rand.New(rand.NewSource(132))
	met := map[bool]int{}
	for range 20000 {
		var l []api.Rec
		for range random.Intn(10) {
			l = append(l, mixedRec(random)...)
		}
		met[fromAgrees(t, l)]++
	}
	if met[true] < 5000 || met[false] < 5000 {
		t.Errorf("the test meets %v", met)
	}
}

// 13.3 says that no two valid lists have the same records.
func TestRecsDiffer(t *testing.T) {
	known := map[string][]api.Xattr{}
	names := []string{"a", "b", "a=", "a%3D", "%", "%25", " ", "a b", "a%20b"}
	for _, a := range names {
		for _, b := range names {
			for _, v := range []string{"", "b", "Yg=="} {
				l := sorted(xs(a, v, b, "x"))
				if a == b {
					l = l[:1]
				}
				s := fmt.Sprintf("%q", Recs(l))
				if other, is := known[s]; is && !slices.Equal(other, l) {
					t.Errorf("13.3: %s and %s have the same records", cut(other), cut(l))
				}
				known[s] = l
			}
		}
	}
}

// R1: the same call has the same answer, whatever was asked in between, and
// one of many records ends.
func TestAgain(t *testing.T) {
	for range 3 {
		for _, l := range lists() {
			agrees(t, l)
			fails(t, rs(libarc+"a", "1"))
			wrong(t, many(33))
		}
	}
	var l []api.Rec
	for i := range 1 << 17 {
		l = append(l, api.Rec{Key: schily + "n" + strconv.Itoa(i%32), Value: strconv.Itoa(i)})
	}
	got, e := From(l)
	if e != api.OK || len(got) != 32 || got[31] != (api.Xattr{Name: "n9", Value: strconv.Itoa(1<<17 - 32 + 9)}) {
		t.Errorf("13.2: From of many records = %s, %d", cut(got), e)
	}
	fails(t, join(l, rs(libarc+"a", "!")))
	wrong(t, make([]api.Xattr, 1<<20))
	fails(t, wantAll(make([]api.Xattr, 1<<10)))
	says(t, make([]api.Rec, 1<<20), nil)
}

// R3: arguments stay as they are, and answers share no memory, with them or
// with each other.
func TestNewMemory(t *testing.T) {
	for _, l := range lists() {
		before := slices.Clone(l)
		all := wantAll(l)
		slices.Reverse(all)
		records := slices.Clone(all)
		first, second := Recs(l), Recs(l)
		a, _ := From(all)
		b, _ := From(all)
		May(l)
		Same(l, a)
		for _, r := range first {
			insideNone(t, r.Key, l, nil)
			insideNone(t, r.Value, l, nil)
		}
		for _, x := range a {
			insideNone(t, x.Name, nil, all)
			insideNone(t, x.Value, nil, all)
		}
		scribble(first, api.Rec{Key: "scribbled"})
		scribble(a, api.Xattr{Name: "scribbled"})
		if !slices.Equal(l, before) || !slices.Equal(all, records) {
			t.Errorf("R3: %s was %s, and %s was %s", cut(l), cut(before), cut(all), cut(records))
		}
		if !slices.Equal(second, wantRecs(before)) {
			t.Errorf("R3: two answers of Recs share memory: %s", cut(second))
		}
		if !slices.Equal(b, before) {
			t.Errorf("R3: two answers of From share memory: %s", cut(b))
		}
		// What is given may be written over afterwards.
		second = Recs(l)
		scribble(all, api.Rec{Key: "scribbled"})
		scribble(l, api.Xattr{Name: "scribbled"})
		if !slices.Equal(second, wantRecs(before)) || !slices.Equal(b, before) {
			t.Errorf("R3: answers change with what was given: %s, %s", cut(second), cut(b))
		}
	}
}

// scribble writes over a list and its spare capacity.
func scribble[T any](l []T, with T) {
	l = l[:cap(l)]
	for i := range l {
		l[i] = with
	}
}

// insideNone tells a fault if an answer lies in the memory of an argument.
func insideNone(t *testing.T, answer string, l []api.Xattr, r []api.Rec) {
	t.Helper()
	var given []string
	for _, x := range l {
		given = append(given, x.Name, x.Value)
	}
	for _, x := range r {
		given = append(given, x.Key, x.Value)
	}
	for _, s := range given {
		if inside(answer, s) {
			t.Errorf("R3: the answer %.60q shares memory with %.60q", answer, s)
		}
	}
}

// inside tells whether part lies in the memory of s. Strings of no byte or of
// one may stand at one place for all.
func inside(part, s string) bool {
	if len(part) < 2 {
		return false
	}
	at := uintptr(unsafe.Pointer(unsafe.StringData(part)))
	first := uintptr(unsafe.Pointer(unsafe.StringData(s)))
	return at >= first && at < first+uintptr(len(s))
}

// R4: beside an error there is no list, nor where there is nothing to say.
func TestNoList(t *testing.T) {
	good := Recs(many(32))
	for _, bad := range [][]api.Rec{rs(schily, "1"), rs(libarc, ""), rs(libarc+"a", "1"), rs(libarc+"%41", ""), rs(schily+"a\x00", ""), rs(schily+"x", ""), rs(schily+"user.n000", rep("v", 4097))} {
		for _, l := range [][]api.Rec{join(good, bad), join(good[:20], bad, good[20:], bad)} {
			if got, e := From(l); got != nil || e != api.ErrForm {
				t.Errorf("R4: From(%s) = %s of %d, %d", cut(l), cut(got), cap(got), e)
			}
		}
	}
	for _, l := range [][]api.Xattr{many(33), xs("", ""), xs("a", "1", "b", "2", "a", "3"), xs("a", "1", "b", rep("v", 4097))} {
		if got := Recs(l); got != nil {
			t.Errorf("R4: Recs(%s) = %s of %d", cut(l), cut(got), cap(got))
		}
	}
}

// The way of the chapter: what can't be decoded panics inside, and with nothing
// but what is meant for it.
func TestWay(t *testing.T) {
	for _, c := range []struct {
		l     []api.Rec
		wrong bool
	}{
		{nil, false}, {rs("path", "p"), false}, {rs(schily+"a", "!"), false}, {rs(libarc+"a", "YQ=="), false}, {rs(schily+"a", rep("v", 4097), libarc+"a", ""), false},
		{rs(libarc+"a", "1"), true}, {rs(libarc+"a", "YR=="), true}, {rs(schily+"a", "1", libarc+"b", "!"), true}, {rs(libarc+"%41", ""), true}, {rs(libarc+"a=b", ""), true},
		{rs(schily, ""), true}, {rs(libarc, ""), true}, {rs(schily+"a\x00", ""), true}, {rs(schily+rep("n", 239), ""), true}, {rs(schily+"a", rep("v", 4097)), true}, {wantAll(many(33)), true}, {wantAll(many(1000)), true},
	} {
		func() {
			defer func() {
				got := recover()
				if _, is := got.(noXattr); is != c.wrong || got != nil && !is {
					t.Errorf("13, Ways: the reading of %s panics with %T", cut(c.l), got)
				}
			}()
			want, _ := wantFrom(c.l)
			if got := read(c.l); !slices.Equal(got, want) {
				t.Errorf("13, Ways: the reading of %s gives %s", cut(c.l), cut(got))
			}
		}()
	}
}

func FuzzFrom(f *testing.F) {
	f.Add("SCHILY.xattr.a", "1", "LIBARCHIVE.xattr.a", "Mg==")
	f.Add("LIBARCHIVE.xattr.a%3Db", "AAo=", "SCHILY.xattr.a=b", "1")
	f.Add("LIBARCHIVE.xattr.%41", "YR==", "path", "p")
	f.Add("SCHILY.xattr.", "", "SCHILY.xattr.a\x00", rep("v", 4097))
	f.Fuzz(func(t *testing.T, key1, value1, key2, value2 string) {
		fromAgrees(t, rs(key1, value1, key2, value2))
		fromAgrees(t, rs(schily+key1, value1, libarc+key2, value2))
		fromAgrees(t, rs(libarc+key1, value1, schily+key2, value2))
	})
}

func FuzzMay(f *testing.F) {
	f.Add("a", "1", "b", "2")
	f.Add("a=b", "\x00", "a b", "")
	f.Add("", "", rep("n", 239), rep("v", 4097))
	f.Add(rep("=", 79), "", rep("n", 238), rep("v", 4096))
	f.Fuzz(func(t *testing.T, name1, value1, name2, value2 string) {
		agrees(t, xs(name1, value1))
		agrees(t, xs(name1, value1, name2, value2))
		fromAgrees(t, wantAll(xs(name1, value1, name2, value2)))
	})
}
