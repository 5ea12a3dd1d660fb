package entry

import (
	"fmt"
	"math"
	"math/rand"
	"reflect"
	"slices"
	"strings"
	"testing"
	"unsafe"

	"gripsack/api"
)

// The Keys of the chapter, written out.
var keys = []string{"hdrcharset", "path", "linkpath", "uid", "gid", "mtime", "SCHILY.acl.access", "SCHILY.acl.default", "SCHILY.fflags", "GRIPSACK.caps"}

// simple is a header with a number in each field, and the entry that it alone
// describes.
func simple(kind int) (api.Header, api.Entry) {
	h := api.Header{Name: "n", Mode: 0o644, Uid: 1, Gid: 2, Mtime: 3, Size: 7, Link: "l", Major: 8, Minor: 9, Uname: "u", Gname: "g", Type: byte('0' + kind - 1)}
	e := api.Entry{Path: "n", Kind: kind, Meta: api.Meta{Mode: 0o644, Uid: 1, Gid: 2, Mtime: api.Stamp{Sec: 3}}}
	switch kind {
	case api.KHard:
		e.Target, e.Meta = "l", api.Meta{}
	case api.KSym:
		e.Target = "l"
		h.Mode, e.Meta.Mode = 0o777, 0o777
	case api.KChar, api.KBlock:
		e.Major, e.Minor = 8, 9
	}
	return h, e
}

func TestTypes(t *testing.T) {
	for c := range 256 {
		h := api.Header{Name: "n", Mode: 0o777, Link: "l", Major: 1, Type: byte(c)}
		valid := overAgrees(t, h, "", nil)
		if valid != (c == 0 || c >= '0' && c <= '6') {
			t.Errorf("15.3: Over of the Type %d", c)
		}
		overAgrees(t, h, "", rs("path", "p", "SCHILY.xattr.a", "b"))
		overAgrees(t, h, "data", nil)
	}
	for _, kind := range kinds {
		h, e := simple(kind)
		says(t, h, "", nil, e)
	}
	h, e := simple(api.KFile)
	h.Type = 0
	says(t, h, "", nil, e)
	e.Data = "data"
	says(t, h, "data", rs("linkpath", "q"), e)
	for _, c := range []byte{'7', 'x', 'g', 'L', 'K', 'S', '/', ' ', 1, 255} {
		h.Type = c
		fails(t, h, "", nil)
		fails(t, h, "", wantRecs(full(api.KFile)))
	}
}

// The header's numbers stand in the entry, or are no ones of an entry.
func TestHeaderNumbers(t *testing.T) {
	for _, kind := range kinds {
		for _, c := range []struct {
			do    func(h *api.Header)
			set   func(e *api.Entry)
			valid bool
		}{
			{func(h *api.Header) { h.Uid, h.Gid = most, 2097152 }, func(e *api.Entry) { e.Meta.Uid, e.Meta.Gid = most, 2097152 }, true},
			{func(h *api.Header) { h.Uid = most + 1 }, nil, false},
			{func(h *api.Header) { h.Uid = 1<<56 - 1 }, nil, false},
			{func(h *api.Header) { h.Gid = most + 1 }, nil, false},
			{func(h *api.Header) { h.Mtime = -1 }, func(e *api.Entry) { e.Meta.Mtime.Sec = -1 }, true},
			{func(h *api.Header) { h.Mtime = -lastSec }, func(e *api.Entry) { e.Meta.Mtime.Sec = -lastSec }, true},
			{func(h *api.Header) { h.Mtime = lastSec }, func(e *api.Entry) { e.Meta.Mtime.Sec = lastSec }, true},
			{func(h *api.Header) { h.Mtime = lastSec + 1 }, nil, false},
			{func(h *api.Header) { h.Mtime = -lastSec - 1 }, nil, false},
			{func(h *api.Header) { h.Mtime = math.MinInt }, nil, false},
			{func(h *api.Header) { h.Mode = 4096 | h.Mode }, nil, false},
			{func(h *api.Header) { h.Mode = 1<<56 - 1 }, nil, false},
			{func(h *api.Header) { h.Size = 0 }, func(e *api.Entry) {}, true},
			{func(h *api.Header) { h.Size = math.MaxInt }, func(e *api.Entry) {}, true},
			{func(h *api.Header) { h.Uname, h.Gname = "", rep("g", 32) }, func(e *api.Entry) {}, true},
		} {
			h, e := simple(kind)
			c.do(&h)
			// A KHard has no metadata: there is nothing wrong in it.
			if c.valid || kind == api.KHard {
				if kind != api.KHard {
					c.set(&e)
				}
				says(t, h, "", nil, e)
			} else {
				fails(t, h, "", nil)
			}
		}
		for mode := range 4096 {
			h, e := simple(kind)
			h.Mode = mode
			if kind == api.KHard || kind == api.KSym && mode != 511 {
				overAgrees(t, h, "", nil)
				continue
			}
			e.Meta.Mode = mode
			says(t, h, "", nil, e)
		}
		for _, major := range []int{0, 2097151, 2097152, 1 << 40} {
			for _, minor := range []int{0, 2097151, 2097152, 1 << 40} {
				h, e := simple(kind)
				h.Major, h.Minor = major, minor
				switch {
				case kind != api.KChar && kind != api.KBlock:
					says(t, h, "", nil, e)
				case major <= 2097151 && minor <= 2097151:
					e.Major, e.Minor = major, minor
					says(t, h, "", nil, e)
				default:
					fails(t, h, "", nil)
				}
			}
		}
	}
}

// A path of the header: that of a KDir may have a `/` at its end, one.
func TestHeaderPath(t *testing.T) {
	for _, kind := range kinds {
		for _, c := range []struct{ prefix, name, want string }{
			{"", "a", "a"}, {"p", "a", "p/a"}, {"p/q", "a/b", "p/q/a/b"}, {rep("p", 155), rep("n", 100), rep("p", 155) + "/" + rep("n", 100)}, {"", rep("n", 100), rep("n", 100)}, {"", "\xff", "\xff"},
			{"", "", ""}, {"", "/", ""}, {"", "/a", ""}, {"", "//", ""}, {"", "a//b", ""}, {"p", "/a", ""}, {"p/", "a", ""}, {"/p", "a", ""}, {"/", "a", ""}, {"..", "a", ""}, {"p", "..", ""}, {".", "a", ""}, {"", ".", ""}, {"", "a/..", ""}, {"", rep("a/", 50), "+"}, {"", "a//", ""}, {"p", "//", ""}, {"p", "a//", ""},
			{"", "a/", "+"}, {"p", "a/", "+"}, {"p", "", "+"}, {"p/q", "", "+"}, {rep("p", 155), rep("n", 99) + "/", "+"},
			{"", "./", ""}, {"", "../", ""}, {"", "a/../", ""},
			{rep("p/", 40), rep("n/", 30), ""}, {rep("p/", 39) + "p", rep("n/", 24), "+"}, {rep("p/", 39) + "p", rep("n/", 25), ""},
		} {
			h, e := simple(kind)
			h.Prefix, h.Name = c.prefix, c.name
			e.Path = c.want
			if c.want == "+" {
				e.Path = strings.TrimPrefix(c.prefix+"/"+c.name, "/")
				e.Path = e.Path[:len(e.Path)-1]
			}
			if c.want == "" || c.want == "+" && kind != api.KDir {
				fails(t, h, "", nil)
			} else {
				says(t, h, "", nil, e)
			}
			// With a record the header's own path says nothing.
			e.Path = "x/y"
			says(t, h, "", rs("path", "x/y"), e)
			if c.want == "" {
				fails(t, h, "", rs("path", "x/y", "path", ""))
			}
		}
		// That `/` is for the header alone.
		h, _ := simple(kind)
		fails(t, h, "", rs("path", "x/"))
		fails(t, h, "", rs("path", "/"))
	}
}

func TestHeaderLink(t *testing.T) {
	for _, kind := range kinds {
		for _, link := range []string{"", "l", "a/b", rep("l", 100), "/", "/a", "..", "../a", "a/", "\xff"} {
			h, e := simple(kind)
			h.Link = link
			valid := true
			if kind == api.KHard {
				valid = wantPath(link)
				e.Target = link
			}
			if kind == api.KSym {
				valid = link != ""
				e.Target = link
			}
			if valid {
				says(t, h, "", nil, e)
			} else {
				fails(t, h, "", nil)
			}
		}
	}
}

func TestOverData(t *testing.T) {
	for _, kind := range kinds {
		for _, data := range []string{"", "d", "\x00", rep("d", 512), rep("d", 65535), rep("d", 65536), rep("d", 65537), rep("d", 1<<20)} {
			h, e := simple(kind)
			e.Data = data
			if data == "" || kind == api.KFile && len(data) <= 65536 {
				says(t, h, data, nil, e)
			} else {
				fails(t, h, data, nil)
			}
		}
	}
}

// value is a record of a Key with a Value, and what it sets.
type value struct {
	key, value string
	set        func(e *api.Entry)
}

// values are records whose Values say something; not each of it may be said of
// each kind.
func values() []value {
	power := api.Caps{Ver: 2, Effective: true, Permitted: 5}
	return []value{
		{"hdrcharset", "BINARY", func(e *api.Entry) {}},
		{"hdrcharset", "ISO-IR 10646 2000 UTF-8", func(e *api.Entry) {}},
		{"path", "x", func(e *api.Entry) { e.Path = "x" }},
		{"path", "y/z", func(e *api.Entry) { e.Path = "y/z" }},
		{"path", pathOf(4096), func(e *api.Entry) { e.Path = pathOf(4096) }},
		{"path", "\xff", func(e *api.Entry) { e.Path = "\xff" }},
		{"linkpath", "k", func(e *api.Entry) { e.Target = "k" }},
		{"linkpath", pathOf(4096), func(e *api.Entry) { e.Target = pathOf(4096) }},
		{"uid", "0", func(e *api.Entry) { e.Meta.Uid = 0 }},
		{"uid", "7", func(e *api.Entry) { e.Meta.Uid = 7 }},
		{"uid", "2097151", func(e *api.Entry) { e.Meta.Uid = 2097151 }},
		{"uid", "2147483647", func(e *api.Entry) { e.Meta.Uid = most }},
		{"gid", "0", func(e *api.Entry) { e.Meta.Gid = 0 }},
		{"gid", "10", func(e *api.Entry) { e.Meta.Gid = 10 }},
		{"gid", "2097152", func(e *api.Entry) { e.Meta.Gid = 2097152 }},
		{"gid", "2147483647", func(e *api.Entry) { e.Meta.Gid = most }},
		{"mtime", "0", func(e *api.Entry) { e.Meta.Mtime = api.Stamp{} }},
		{"mtime", "5", func(e *api.Entry) { e.Meta.Mtime = api.Stamp{Sec: 5} }},
		{"mtime", "-1.5", func(e *api.Entry) { e.Meta.Mtime = api.Stamp{Sec: -2, Nano: 500000000} }},
		{"mtime", "1099511627776", func(e *api.Entry) { e.Meta.Mtime = api.Stamp{Sec: lastSec} }},
		{"mtime", "1099511627776.999999999", func(e *api.Entry) { e.Meta.Mtime = api.Stamp{Sec: lastSec, Nano: 999999999} }},
		{"mtime", "-1099511627776", func(e *api.Entry) { e.Meta.Mtime = api.Stamp{Sec: -lastSec} }},
		{"SCHILY.acl.access", "u::rw-,g::r--,o::r--", func(e *api.Entry) { e.Meta.Acl = three(0o644) }},
		{"SCHILY.acl.access", "u::rw-,u:5:rwx,g::---,m::r--,o::r--", func(e *api.Entry) { e.Meta.Acl = list(1, 0, 6, 2, 5, 7, 3, 0, 0, 5, 0, 4, 6, 0, 4) }},
		{"SCHILY.acl.default", "u::rwx,g::---,o::---", func(e *api.Entry) { e.Meta.Default = three(0o700) }},
		{"SCHILY.acl.default", aclText(long(0o644)), func(e *api.Entry) { e.Meta.Default = long(0o644) }},
		{"SCHILY.fflags", "", func(e *api.Entry) { e.Meta.Flags = 0 }},
		{"SCHILY.fflags", "uchg", func(e *api.Entry) { e.Meta.Flags = 1 }},
		{"SCHILY.fflags", "uappnd,nodump,opaque", func(e *api.Entry) { e.Meta.Flags = 14 }},
		{"GRIPSACK.caps", "", func(e *api.Entry) { e.Meta.Caps = api.Caps{} }},
		{"GRIPSACK.caps", capsCode(power), func(e *api.Entry) { e.Meta.Caps = power }},
		{"GRIPSACK.caps", capsCode(api.Caps{Ver: 3, Root: most}), func(e *api.Entry) { e.Meta.Caps = api.Caps{Ver: 3, Root: most} }},
	}
}

// setting is e after a value, by the words: what it says counts only for some
// kinds.
func setting(e *api.Entry, v value) {
	kind, hard := e.Kind, e.Kind == api.KHard
	if v.key == "linkpath" && !hard && kind != api.KSym {
		return
	}
	v.set(e)
	if hard {
		e.Meta = api.Meta{}
	}
}

// answers tells a fault if Over answers otherwise: e, or nothing if e may not be.
func answers(t *testing.T, h api.Header, l []api.Rec, e api.Entry) {
	t.Helper()
	if wantMay(e) {
		says(t, h, "", l, e)
	} else {
		fails(t, h, "", l)
	}
}

// Each record alone, and each two of them, for each kind.
func TestValues(t *testing.T) {
	count := 0
	for _, kind := range kinds {
		h, plain := simple(kind)
		for _, a := range values() {
			e := copied(plain)
			setting(&e, a)
			one := rs(a.key, a.value)
			answers(t, h, one, e)
			if wantMay(e) {
				count++
			}
			for _, b := range values() {
				two := copied(e)
				setting(&two, b)
				answers(t, h, append(one, rs(b.key, b.value)...), two)
			}
		}
	}
	if count < 170 {
		t.Errorf("the test has %d records that are right", count)
	}
}

// An empty Value sets a field back to what the header says of it.
func TestSetBack(t *testing.T) {
	for _, kind := range kinds {
		h, plain := simple(kind)
		for _, key := range []string{"path", "linkpath", "uid", "gid", "mtime"} {
			says(t, h, "", rs(key, ""), plain)
			says(t, h, "", rs(key, "", key, ""), plain)
		}
		for _, v := range values() {
			if !slices.Contains([]string{"path", "linkpath", "uid", "gid", "mtime"}, v.key) {
				continue
			}
			e := copied(plain)
			setting(&e, v)
			says(t, h, "", rs(v.key, v.value, v.key, ""), plain)
			says(t, h, "", rs(v.key, v.value, "uid", "", "comment", "", v.key, "", "SCHILY.fflags", ""), plain)
			says(t, h, "", rs(v.key, "", v.key, v.value), e)
			says(t, h, "", rs(v.key, v.value, v.key, "", v.key, v.value), e)
		}
	}
	// Only these five: of the others an empty Value says nothing, or 0.
	h, plain := simple(api.KFile)
	for _, key := range []string{"hdrcharset", "SCHILY.acl.access", "SCHILY.acl.default"} {
		for _, kind := range kinds {
			h, _ := simple(kind)
			fails(t, h, "", rs(key, ""))
		}
	}
	says(t, h, "", rs("SCHILY.fflags", "uchg", "SCHILY.fflags", "", "GRIPSACK.caps", capsCode(api.Caps{Ver: 2}), "GRIPSACK.caps", ""), plain)
	// The header's own number may be one that it takes a record to say.
	h.Uid, h.Mtime = 2097152, -5
	plain.Meta.Uid, plain.Meta.Mtime = 2097152, api.Stamp{Sec: -5}
	says(t, h, "", rs("uid", "7", "mtime", "7.5", "uid", "", "mtime", ""), plain)
	// A field that the header has wrong is wrong again, and right with a record.
	h.Uid = most + 1
	fails(t, h, "", nil)
	fails(t, h, "", rs("uid", "7", "uid", ""))
	plain.Meta.Uid = 7
	says(t, h, "", rs("uid", "", "uid", "7", "mtime", ""), plain)
	h.Mtime = lastSec + 1
	fails(t, h, "", rs("uid", "7"))
	plain.Meta.Mtime = api.Stamp{Sec: 8}
	says(t, h, "", rs("uid", "7", "mtime", "8"), plain)
	h, plain = simple(api.KHard)
	h.Link = "../a"
	fails(t, h, "", nil)
	plain.Target = "b"
	says(t, h, "", rs("linkpath", "b"), plain)
	fails(t, h, "", rs("linkpath", "b", "linkpath", ""))
}

// wrongValues are Values that say nothing.
func wrongValues() map[string][]string {
	ids := []string{"00", "07", "007", "-1", "-0", "+7", "+0", " 7", "7 ", "7\n", "x", "uid", "7x", "x7", "0x7", "1_000", "7.0", "1e3", "2147483648", "4294967296", "4294967303", "9223372036854775807", "9223372036854775808", "18446744073709551616", "18446744073709551623", rep("9", 100), rep("0", 100) + "7", "\x00", "7\x00", "\xff", "٧"}
	lists := []string{"", "u::rw-", "u::rw-,g::r--", "g::r--,u::rw-,o::r--", "u::rw-,g::r--,o::r--,", "u::rw-,g::r--,o::r--\n", ",u::rw-,g::r--,o::r--", "u::rw-,g::r--,o::r", "user::rw-,group::r--,other::r--", "u::rw-,u:5:rwx,g::r--,o::r--", "u::rw-,u:05:rwx,g::---,m::r--,o::r--", "u::rw-,u:2147483648:rwx,g::---,m::r--,o::r--", "u::wr-,g::r--,o::r--", "x", "\x00"}
	return map[string][]string{
		"hdrcharset":         {"", "UTF-8", "binary", "BINARY ", " BINARY", "BINARY\n", "BINARYBINARY", "BINAR", "ISO-IR 10646 2000 UTF-8 ", "ISO-IR 10646 2000 utf-8", "ISO-IR 8859 1 1998", "ISO-IR", "\x00"},
		"uid":                ids,
		"gid":                ids,
		"mtime":              {"x", "1.50", "1.", ".5", "-0", "-0.0", "+1", " 1", "1 ", "01", "-01", "1.0", "1.0000000001", "1e3", "1,5", "1099511627777", "-1099511627776.000000001", "-1099511627777", "9223372036854775808", rep("9", 100), "NaN", "--1", "-", "\x00"},
		"SCHILY.acl.access":  lists,
		"SCHILY.acl.default": lists,
		"SCHILY.fflags":      {"schg", "nodump,uchg", "uchg,uchg", "uchg,", ",uchg", ",", "uchg, nodump", "UCHG", "0", "\x00", " "},
		"GRIPSACK.caps":      {"A", "AAAA", "=", "AQAAAgUAAAAAAAAAAAAAAAAAAAB=", "AQAAAgUAAAAAAAAAAAAAAAAAAAA", "AQAAAgUAAAAAAAAAAAAAAAAAAAA=\n", " AQAAAgUAAAAAAAAAAAAAAAAAAAA=", "AgAAAgUAAAAAAAAAAAAAAAAAAAA=", "AQAAAQUAAAAAAAAAAAAAAAAAAAA=", "AQAAAwUAAAAAAAAAAAAAAAAAAAA=", "AQAAAgUAAAAAAAAAAAAAAAAAAAAAAAAA", "AAAAAwAAAAAAAAAAAAAAAAAAAAAAAACA", "AAAAAAAAAAAAAAAAAAAAAAAAAAA=", "\x00"},
		"LIBARCHIVE.xattr.a": {"!", "A", "AA", "YR==", "YQ", "YQ==\n", "="},
	}
}

// A Value that says nothing is an error for each kind, wherever it stands and
// whatever replaces it.
func TestWrongValues(t *testing.T) {
	count := 0
	for key, wrong := range wrongValues() {
		for _, v := range wrong {
			count++
			right := "YQ=="
			for _, other := range values() {
				if other.key == key {
					right = other.value
				}
			}
			for _, kind := range kinds {
				h, _ := simple(kind)
				fails(t, h, "", rs(key, v))
				fails(t, h, "", rs(key, v, key, right))
				fails(t, h, "", rs(key, v, key, ""))
				fails(t, h, "", rs(key, right, key, v))
				fails(t, h, "", rs("path", "x", "comment", "y", key, v, "uid", "5", "SCHILY.xattr.a", ""))
				fails(t, Head(full(kind)), "", append(rs(key, v), Recs(full(kind))...))
				fails(t, Head(full(kind)), "", append(Recs(full(kind)), rs(key, v)...))
			}
		}
	}
	if count < 120 {
		t.Errorf("the test has %d Values", count)
	}
}

// A path, and a target of a KHard, is what the Value is: whether it may be is
// asked at the end, so that another one may replace it.
func TestWrongPaths(t *testing.T) {
	for _, v := range []string{"/", "/x", "x/", "x//y", ".", "..", "x/../y", "x\x00", "\x00", rep("n", 256), pathOf(4097), rep("a/", 64) + "a"} {
		for _, kind := range kinds {
			h, e := simple(kind)
			fails(t, h, "", rs("path", v))
			fails(t, h, "", rs("path", "x", "path", v))
			says(t, h, "", rs("path", v, "path", ""), e)
			e.Path = "x"
			says(t, h, "", rs("path", v, "path", "x"), e)
			h, e = simple(kind)
			sym := kind == api.KSym && len(v) <= 4096 && !strings.Contains(v, "\x00")
			if kind == api.KHard || kind == api.KSym && !sym {
				fails(t, h, "", rs("linkpath", v))
			} else {
				if sym {
					e.Target = v
				}
				says(t, h, "", rs("linkpath", v), e)
			}
			h, e = simple(kind)
			says(t, h, "", rs("linkpath", v, "linkpath", ""), e)
			if kind == api.KHard || kind == api.KSym {
				e.Target = "x"
			}
			says(t, h, "", rs("linkpath", v, "linkpath", "x"), e)
		}
	}
}

// linkpath says nothing of a kind that has no Target.
func TestLinkpath(t *testing.T) {
	for _, kind := range kinds {
		h, e := simple(kind)
		if kind == api.KHard || kind == api.KSym {
			e.Target = "q"
		}
		says(t, h, "", rs("linkpath", "q"), e)
		h.Link = ""
		says(t, h, "", rs("linkpath", "q"), e)
		h.Link = rep("l", 100)
		says(t, h, "", rs("linkpath", "x", "linkpath", "q"), e)
	}
}

// A KHard has no metadata, whatever its header and its records say; but what
// says nothing is wrong in these as well.
func TestHardRecs(t *testing.T) {
	h, e := simple(api.KHard)
	for _, kind := range kinds {
		l := slices.DeleteFunc(wantRecs(full(kind)), func(r api.Rec) bool { return r.Key == "path" || r.Key == "linkpath" })
		says(t, h, "", l, e)
		says(t, h, "", append(rs("linkpath", "l"), l...), e)
	}
	for _, v := range values() {
		if v.key != "path" && v.key != "linkpath" {
			says(t, h, "", rs(v.key, v.value), e)
		}
	}
	says(t, h, "", rs("SCHILY.acl.access", "u::rwx,g::rwx,o::rwx", "SCHILY.acl.default", "u::rwx,g::rwx,o::rwx", "GRIPSACK.caps", capsCode(api.Caps{Ver: 2})), e)
	h.Mode, h.Uid, h.Mtime = 1<<20, 1<<40, 1<<50
	says(t, h, "", nil, e)
	fails(t, h, "", rs("uid", "x"))
	fails(t, h, "", rs("LIBARCHIVE.xattr.a", "!"))
	fails(t, h, "", rs("SCHILY.xattr.", "v"))
	fails(t, h, "d", nil)
	// Of a KHard no records are too many: it has none of the attributes.
	var l []api.Rec
	for i := range 32 {
		l = append(l, rs(fmt.Sprintf("SCHILY.xattr.n%02d", i), rep("v", 4096))...)
	}
	says(t, h, "", l, e)
	fails(t, h, "", append(l, rs("SCHILY.xattr.o", "")...))
}

// Each record says something, but not all of it may be said of one entry.
func TestWrongTogether(t *testing.T) {
	set := func(kind int, l ...string) {
		t.Helper()
		h, _ := simple(kind)
		fails(t, h, "", rs(l...))
	}
	power := capsCode(api.Caps{Ver: 2})
	set(api.KFile, "SCHILY.acl.access", "u::rwx,g::rwx,o::rwx")
	set(api.KFile, "SCHILY.acl.access", "u::rw-,u:5:rwx,g::r--,m::rw-,o::r--")
	set(api.KFile, "SCHILY.acl.default", "u::rw-,g::r--,o::r--")
	set(api.KDir, "GRIPSACK.caps", power)
	set(api.KFifo, "GRIPSACK.caps", power)
	set(api.KSym, "GRIPSACK.caps", power)
	set(api.KSym, "SCHILY.fflags", "uchg")
	set(api.KSym, "SCHILY.acl.access", "u::rwx,g::rwx,o::rwx")
	set(api.KSym, "SCHILY.acl.default", "u::rwx,g::rwx,o::rwx")
	set(api.KChar, "SCHILY.acl.default", "u::rw-,g::r--,o::r--")
	for _, kind := range []int{api.KFile, api.KChar, api.KBlock, api.KDir, api.KFifo} {
		h, e := simple(kind)
		e.Meta.Acl = three(0o644)
		says(t, h, "", rs("SCHILY.acl.access", "u::rwx,g::rwx,o::rwx", "SCHILY.acl.access", "u::rw-,g::r--,o::r--"), e)
		h.Mode = 0o640
		fails(t, h, "", rs("SCHILY.acl.access", "u::rw-,g::r--,o::r--"))
	}
}

// Xattrs are those of all records of them, of either form and in any order.
func TestOverXattrs(t *testing.T) {
	for _, kind := range kinds {
		h, e := simple(kind)
		has := func(l ...string) {
			if kind != api.KHard {
				e.Meta.Xattrs = xs(l...)
			}
		}
		has("a", "1")
		says(t, h, "", rs("SCHILY.xattr.a", "1"), e)
		says(t, h, "", rs("LIBARCHIVE.xattr.a", "MQ=="), e)
		says(t, h, "", rs("SCHILY.xattr.a", "2", "uid", "1", "LIBARCHIVE.xattr.a", "MQ=="), e)
		says(t, h, "", rs("LIBARCHIVE.xattr.a", "Mg==", "SCHILY.xattr.a", "1", "path", ""), e)
		has("a=", "1", "b", "", "c", "3")
		says(t, h, "", rs("SCHILY.xattr.c", "3", "SCHILY.xattr.b", "", "gid", "2", "LIBARCHIVE.xattr.a%3D", "MQ=="), e)
		has("path", "p", "uid", "x")
		says(t, h, "", rs("SCHILY.xattr.uid", "x", "SCHILY.xattr.path", "p"), e)
		for _, bad := range [][]string{{"SCHILY.xattr.", "v"}, {"SCHILY.xattr.a\x00", "v"}, {"SCHILY.xattr." + rep("n", 239), ""}, {"SCHILY.xattr.a", rep("v", 4097)}, {"LIBARCHIVE.xattr.%41", ""}, {"LIBARCHIVE.xattr.a=", ""}, {"LIBARCHIVE.xattr.", ""}} {
			fails(t, h, "", rs(bad...))
			fails(t, h, "", append(rs("SCHILY.xattr.b", "1"), rs(bad...)...))
		}
	}
}

// Records with other Keys say nothing, however near these are.
func TestOtherKeys(t *testing.T) {
	others := []string{"", "comment", "size", "atime", "ctime", "uname", "gname", "charset", "Path", "PATH", "path ", " path", "pat", "path\x00", "path=", "paths", "LINKPATH", "link", "UID", "uids", "GID", "mtimes", "hdrcharset2", "SCHILY.acl", "SCHILY.acl.ace", "SCHILY.acl.access2", "schily.acl.access", "SCHILY.fflag", "GRIPSACK", "GRIPSACK.cap", "SCHILY.xattr", "schily.xattr.a", "LIBARCHIVE.xattr", "LIBARCHIVE.creationtime", " SCHILY.xattr.a", "\xff", rep("k", 300)}
	for _, kind := range kinds {
		h, e := simple(kind)
		var all []api.Rec
		for _, key := range others {
			for _, v := range []string{"", "x", "7", "/", "\x00", rep("v", 1000)} {
				says(t, h, "", rs(key, v), e)
				all = append(all, rs(key, v)...)
			}
		}
		says(t, h, "", all, e)
		x := full(kind)
		says(t, wantHead(x), x.Data, slices.Concat(all, wantRecs(x), all), x)
	}
}

// 15.4, with other records around, and in another order.
func TestOrder(t *testing.T) {
	random := rand.New(rand.NewSource(153))
	for _, e := range some() {
		l := Recs(e)
		for range 4 {
			shuffled := append(slices.Clone(l), rs("comment", "x", "hdrcharset", "ISO-IR 10646 2000 UTF-8", "Uid", "x", "size", "-1")...)
			random.Shuffle(len(shuffled), reflect.Swapper(shuffled))
			says(t, Head(e), e.Data, shuffled, e)
		}
		slices.Reverse(l)
		says(t, Head(e), e.Data, l, e)
		// Records ahead of them are replaced where they speak of the same.
		var ahead []api.Rec
		for _, r := range l {
			for _, v := range values() {
				if v.key == r.Key {
					ahead = append(ahead, rs(v.key, v.value)...)
				}
			}
		}
		says(t, Head(e), e.Data, slices.Concat(ahead, l, rs("comment", "")), e)
		// The same ones twice.
		says(t, Head(e), e.Data, slices.Concat(l, l), e)
	}
}

// mixedRec is a record, with a Value of another one now and then.
func mixedRec(random *rand.Rand) []api.Rec {
	all := values()
	v := pick(random, all...)
	switch random.Intn(20) {
	case 0:
		return rs(v.key, pick(random, all...).value)
	case 1:
		return rs(v.key, pick(random, append(wrongValues()[v.key], "/")...))
	case 2:
		return rs(v.key, "")
	case 3:
		return rs(pick(random, "comment", "Path", ""), v.value)
	case 4, 5:
		return rs("SCHILY.xattr."+pick(random, "a", "b", "c"), v.value)
	case 6:
		return rs("LIBARCHIVE.xattr."+pick(random, "a", "b", "a%3D"), pick(random, "YQ==", "", "YWI=", "YQ"))
	}
	return rs(v.key, v.value)
}

// Headers and records of all sorts.
func TestMixedRecs(t *testing.T) {
	random := rand.New(rand.NewSource(155))
	met := map[int]map[bool]int{}
	for range 40000 {
		kind := 1 + random.Intn(7)
		h, _ := simple(kind)
		h.Mode = pick(random, h.Mode, h.Mode, h.Mode, 0o600)
		h.Name = pick(random, "n", "n", "n/", rep("n", 100), "")
		h.Uid = pick(random, h.Uid, most, most+1)
		var l []api.Rec
		for range random.Intn(6) {
			l = append(l, mixedRec(random)...)
		}
		if met[kind] == nil {
			met[kind] = map[bool]int{}
		}
		met[kind][overAgrees(t, h, pick(random, "", "", "", "d"), l)]++
	}
	for kind, m := range met {
		if m[true] < 300 || m[false] < 300 {
			t.Errorf("the test meets %v for kind %d", m, kind)
		}
	}
}

// R1: whatever is given, nothing panics, and each call ends. Of entries that
// are not valid nothing else is promised.
func TestNoPanic(t *testing.T) {
	numbers := []int{math.MinInt, -1 << 32, -257, -1, 0, 8, 256, 1 << 32, math.MaxInt}
	for _, n := range numbers {
		e := api.Entry{Path: rep("\x00", 5000), Kind: n, Data: "d", Target: rep("/", 5000), Major: n, Minor: n}
		e.Meta = api.Meta{Mode: n, Uid: n, Gid: n, Mtime: api.Stamp{Sec: n, Nano: n}, Flags: n, Caps: api.Caps{Ver: n, Root: n}}
		for _, aces := range [][]api.Ace{nil, list(n, n, n), make([]api.Ace, 1000)} {
			e.Meta.Acl, e.Meta.Default, e.Meta.Xattrs = aces, aces, make([]api.Xattr, len(aces))
			may(t, e, false)
			Recs(e)
			Head(e)
			same(t, e, copied(e), true)
			for _, kind := range kinds {
				e.Kind = kind
				may(t, e, false)
				Recs(e)
				Head(e)
			}
		}
		for _, kind := range kinds {
			h, _ := simple(kind)
			h.Uid, h.Gid, h.Mtime, h.Mode, h.Major, h.Minor, h.Size = n, n, n, n, n, n, n
			overAgrees(t, h, "", nil)
			overAgrees(t, h, "d", wantRecs(full(kind)))
		}
	}
	h, e := simple(api.KFile)
	h.Name, h.Prefix, h.Link = rep("n", 1<<20), rep("/", 1<<20), rep("\x00", 1<<20)
	fails(t, h, "", nil)
	h, _ = simple(api.KFile)
	for _, key := range append(keys, "SCHILY.xattr.a", "LIBARCHIVE.xattr.a", "SCHILY.xattr."+rep("n", 1<<16)) {
		for _, v := range []string{rep("9", 1<<20), rep("A", 1<<20), rep("u::rw-,", 1<<17), rep("/", 1<<20)} {
			overAgrees(t, h, "", rs(key, v))
		}
	}
	says(t, h, "", make([]api.Rec, 1<<18), e)
	says(t, h, "", slices.Repeat(rs("uid", "5", "uid", "", "path", "x", "path", ""), 1<<16), e)
}

// R1, R3: arguments stay as they are, answers share no memory with them or
// with each other, and the same call has the same answer.
func TestNewMemory(t *testing.T) {
	for _, e := range some() {
		before := copied(e)
		l, again := Recs(e), Recs(e)
		h := Head(e)
		records := slices.Clone(l)
		// What stands behind a list stays as well.
		given := append(slices.Clone(l), rs("behind", "x")...)
		a, _ := Over(h, e.Data, given[:len(l)])
		b, _ := Over(h, e.Data, given[:len(l)])
		May(e)
		Put(e)
		Same(e, a)
		if !equal(e, before) || !slices.Equal(given[:len(l)], records) || given[len(l)].Key != "behind" {
			t.Errorf("R3: %s was %s, and %s was %s", cut(e), cut(before), cut(given), cut(records))
		}
		for _, s := range texts(l, h) {
			insideNone(t, s, append(entryTexts(e), xattrTexts(e)...))
		}
		for _, s := range append(entryTexts(a), xattrTexts(a)...) {
			insideNone(t, s, append(texts(given, h), e.Data))
		}
		scribble(l, api.Rec{Key: "scribbled"})
		scribble(a.Meta.Acl, api.Ace{Tag: 77})
		scribble(a.Meta.Default, api.Ace{Tag: 78})
		scribble(a.Meta.Xattrs, api.Xattr{Name: "scribbled"})
		if !slices.Equal(again, wantRecs(before)) || !slices.Equal(Recs(e), again) || !equal(e, before) {
			t.Errorf("R3: two answers of Recs share memory: %s", cut(again))
		}
		if !equal(b, before) {
			t.Errorf("R3: two answers of Over share memory: %s", cut(b))
		}
		scribble(given, api.Rec{Key: "scribbled"})
		scribble(e.Meta.Acl, api.Ace{Tag: 79})
		scribble(e.Meta.Xattrs, api.Xattr{Name: "scribbled"})
		if !equal(b, before) || !slices.Equal(again, wantRecs(before)) {
			t.Errorf("R3: answers change with what was given: %s, %s", cut(b), cut(again))
		}
	}
	// Two lists of one answer share nothing either.
	h, _ := simple(api.KDir)
	e, _ := Over(h, "", rs("SCHILY.acl.access", "u::rw-,g::r--,o::r--", "SCHILY.acl.default", "u::rw-,g::r--,o::r--"))
	scribble(e.Meta.Acl, api.Ace{Tag: 77})
	if !slices.Equal(e.Meta.Default, three(0o644)) {
		t.Errorf("R3: two lists of one answer share memory: %s", cut(e))
	}
}

func texts(l []api.Rec, h api.Header) []string {
	out := []string{h.Name, h.Prefix, h.Link}
	for _, r := range l {
		out = append(out, r.Key, r.Value)
	}
	return out
}

func entryTexts(e api.Entry) []string {
	return []string{e.Path, e.Target, e.Data}
}

func xattrTexts(e api.Entry) []string {
	var out []string
	for _, x := range e.Meta.Xattrs {
		out = append(out, x.Name, x.Value)
	}
	return out
}

// scribble writes over a list and its spare capacity.
func scribble[T any](l []T, with T) {
	l = l[:cap(l)]
	for i := range l {
		l[i] = with
	}
}

// insideNone tells a fault if an answer lies in the memory of an argument.
func insideNone(t *testing.T, answer string, given []string) {
	t.Helper()
	for _, s := range given {
		if inside(answer, s) {
			t.Errorf("R3: the answer %.60q shares memory with %.60q", answer, s)
		}
	}
}

// inside tells whether part lies in the memory of s. Strings of no byte or of
// one may stand at one place for all.
func inside(part, s string) bool {
	if len(part) < 2 {
		return false
	}
	at := uintptr(unsafe.Pointer(unsafe.StringData(part)))
	first := uintptr(unsafe.Pointer(unsafe.StringData(s)))
	return at >= first && at < first+uintptr(len(s))
}

// The way of the chapter: a field that is not valid panics inside, and with
// nothing but what is meant for it.
func TestWay(t *testing.T) {
	ends := func(h api.Header, data string, l []api.Rec) {
		t.Helper()
		want, bad := wantOver(h, data, l)
		defer func() {
			got := recover()
			if _, is := got.(noEntry); is != (bad != api.OK) || got != nil && !is {
				t.Errorf("15, Ways: the decoding of %s, %s panics with %T", cut(h), cut(l), got)
			}
		}()
		if got := decode(h, data, l); !equal(got, want) {
			t.Errorf("15, Ways: the decoding of %s, %s gives %s", cut(h), cut(l), cut(got))
		}
	}
	for _, kind := range kinds {
		h, _ := simple(kind)
		ends(h, "", nil)
		ends(h, "d", nil)
		for key, wrong := range wrongValues() {
			for _, v := range wrong {
				ends(h, "", rs(key, v))
			}
		}
		for _, v := range values() {
			ends(h, "", rs(v.key, v.value))
		}
		ends(h, "", rs("path", "/"))
		h.Mode = 4096
		ends(h, "", nil)
	}
	for c := range 256 {
		h, _ := simple(api.KFile)
		h.Type = byte(c)
		ends(h, "", nil)
	}
}

func FuzzOver(f *testing.F) {
	f.Add(byte('0'), "n", "p", "l", "data", 420, 1, 2, "path", "x", "uid", "7")
	f.Add(byte('5'), "n/", "", "", "", 448, 2097152, -5, "SCHILY.acl.default", "u::rw-,g::r--,o::r--", "mtime", "-1.5")
	f.Add(byte('2'), "n", "", "l", "", 511, 1, 2, "linkpath", "", "SCHILY.xattr.a", "b")
	f.Add(byte('1'), "n", "", "l", "", 0, 0, 0, "GRIPSACK.caps", "AQAAAgUAAAAAAAAAAAAAAAAAAAA=", "hdrcharset", "BINARY")
	f.Add(byte(0), "n", "", "", "", 420, most, 1<<40, "SCHILY.fflags", "uchg", "LIBARCHIVE.xattr.a", "YQ==")
	f.Fuzz(func(t *testing.T, kind byte, name, prefix, link, data string, mode, id, mtime int, key1, value1, key2, value2 string) {
		h := api.Header{Type: kind, Name: name, Prefix: prefix, Link: link, Mode: mode, Uid: id, Gid: id, Mtime: mtime, Major: mode, Minor: id}
		overAgrees(t, h, data, rs(key1, value1, key2, value2))
		h, _ = simple(1 + int(kind)%7)
		overAgrees(t, h, "", rs(key1, value1, key2, value2))
		for _, key := range keys {
			overAgrees(t, h, "", rs(key, value1))
			overAgrees(t, h, "", rs(key, value1, key, value2))
		}
	})
}
