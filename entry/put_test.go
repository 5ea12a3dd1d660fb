package entry

import (
	"archive/tar"
	"io"
	"math"
	"slices"
	"strings"
	"testing"
	"time"

	"gripsack/api"
	"gripsack/head"
)

// recs tells a fault if Recs answers otherwise.
func recs(t *testing.T, e api.Entry, want ...string) {
	t.Helper()
	good(t, e)
	if got := Recs(e); !slices.Equal(got, rs(want...)) {
		t.Errorf("15.2: Recs(%s) = %s; want %s", cut(e), cut(got), cut(rs(want...)))
	}
}

// Each record alone, with a Value written out.
func TestEachRec(t *testing.T) {
	file, link := small(api.KFile), small(api.KSym)
	n, l := rep("n", 120), rep("l", 120)
	for _, c := range []struct {
		e    api.Entry
		want []string
	}{
		{file, nil},
		{with(file, func(e *api.Entry) { e.Path = n }), []string{"path", n}},
		{with(file, func(e *api.Entry) { e.Path = n + "\xff" }), []string{"hdrcharset", "BINARY", "path", n + "\xff"}},
		{with(link, func(e *api.Entry) { e.Target = l }), []string{"linkpath", l}},
		{with(link, func(e *api.Entry) { e.Target = l + "\x80" }), []string{"hdrcharset", "BINARY", "linkpath", l + "\x80"}},
		{with(file, func(e *api.Entry) { e.Meta.Uid = 2097152 }), []string{"uid", "2097152"}},
		{with(file, func(e *api.Entry) { e.Meta.Gid = 2147483647 }), []string{"gid", "2147483647"}},
		{with(file, func(e *api.Entry) { e.Meta.Mtime = api.Stamp{Sec: -1} }), []string{"mtime", "-1"}},
		{with(file, func(e *api.Entry) { e.Meta.Mtime = api.Stamp{Sec: -2, Nano: 500000000} }), []string{"mtime", "-1.5"}},
		{with(file, func(e *api.Entry) { e.Meta.Mtime = api.Stamp{Nano: 1} }), []string{"mtime", "0.000000001"}},
		{with(file, func(e *api.Entry) { e.Meta.Mtime = api.Stamp{Sec: 8589934592} }), []string{"mtime", "8589934592"}},
		{with(file, func(e *api.Entry) { e.Meta.Acl = list(1, 0, 6, 3, 0, 4, 6, 0, 4) }), []string{"SCHILY.acl.access", "u::rw-,g::r--,o::r--"}},
		{with(small(api.KDir), func(e *api.Entry) {
			e.Meta.Default = list(1, 0, 7, 2, 5, 4, 3, 0, 5, 4, 7, 6, 5, 0, 3, 6, 0, 0)
		}), []string{"SCHILY.acl.default", "u::rwx,u:5:r--,g::r-x,g:7:rw-,m::-wx,o::---"}},
		{with(file, func(e *api.Entry) { e.Meta.Flags = 1 }), []string{"SCHILY.fflags", "uchg"}},
		{with(file, func(e *api.Entry) { e.Meta.Flags = 15 }), []string{"SCHILY.fflags", "uchg,uappnd,nodump,opaque"}},
		{with(file, func(e *api.Entry) { e.Meta.Caps = api.Caps{Ver: 2, Effective: true, Permitted: 5} }), []string{"GRIPSACK.caps", "AQAAAgUAAAAAAAAAAAAAAAAAAAA="}},
		{with(file, func(e *api.Entry) { e.Meta.Caps = api.Caps{Ver: 2} }), []string{"GRIPSACK.caps", "AAAAAgAAAAAAAAAAAAAAAAAAAAA="}},
		{with(file, func(e *api.Entry) { e.Meta.Caps = api.Caps{Ver: 3, Root: 1} }), []string{"GRIPSACK.caps", "AAAAAwAAAAAAAAAAAAAAAAAAAAABAAAA"}},
		{with(file, func(e *api.Entry) { e.Meta.Xattrs = xs("user.a", "b") }), []string{"SCHILY.xattr.user.a", "b", "LIBARCHIVE.xattr.user.a", "Yg=="}},
		{with(file, func(e *api.Entry) { e.Meta.Xattrs = xs("a=b", "b") }), []string{"LIBARCHIVE.xattr.a%3Db", "Yg=="}},
		{with(link, func(e *api.Entry) { e.Meta.Xattrs = xs("trusted.a", "") }), []string{"SCHILY.xattr.trusted.a", "", "LIBARCHIVE.xattr.trusted.a", ""}},
	} {
		recs(t, c.e, c.want...)
	}
}

// All records at once, in their order.
func TestAllRecs(t *testing.T) {
	e := small(api.KFile)
	e.Path = rep("p/", 60) + rep("n", 101) + "\xff"
	e.Meta.Uid, e.Meta.Gid, e.Meta.Mtime, e.Meta.Flags = 2147483647, 2097153, api.Stamp{Sec: 3, Nano: 250000000}, 6
	e.Meta.Acl = list(1, 0, 6, 2, 5, 7, 3, 0, 0, 5, 0, 4, 6, 0, 4)
	e.Meta.Caps = api.Caps{Ver: 3, Permitted: 1 << 38, Inheritable: 1<<32 | 2, Effective: true, Root: 258}
	e.Meta.Xattrs = xs("a", "1", "b=", "2")
	recs(t, e, "hdrcharset", "BINARY", "path", e.Path, "uid", "2147483647", "gid", "2097153", "mtime", "3.25",
		"SCHILY.acl.access", "u::rw-,u:5:rwx,g::---,m::r--,o::r--", "SCHILY.fflags", "uappnd,nodump",
		"GRIPSACK.caps", "AQAAAwAAAAACAAAAQAAAAAEAAAACAQAA",
		"SCHILY.xattr.a", "1", "LIBARCHIVE.xattr.a", "MQ==", "LIBARCHIVE.xattr.b%3D", "Mg==")
	e = small(api.KDir)
	e.Path = rep("n", 101)
	e.Meta.Uid, e.Meta.Gid, e.Meta.Mtime, e.Meta.Flags = 2097152, 2097152, api.Stamp{Sec: -1, Nano: 999999999}, 8
	e.Meta.Acl, e.Meta.Default, e.Meta.Xattrs = three(0o755), three(0o700), xs("a", "")
	recs(t, e, "path", e.Path, "uid", "2097152", "gid", "2097152", "mtime", "-0.000000001",
		"SCHILY.acl.access", "u::rwx,g::r-x,o::r-x", "SCHILY.acl.default", "u::rwx,g::---,o::---", "SCHILY.fflags", "opaque",
		"SCHILY.xattr.a", "", "LIBARCHIVE.xattr.a", "")
	e = small(api.KSym)
	e.Path, e.Target = rep("n", 255), rep("t", 101)+"\xff"
	e.Meta.Uid, e.Meta.Mtime, e.Meta.Xattrs = 2097152, api.Stamp{Sec: 1 << 40}, xs("=", "=")
	recs(t, e, "hdrcharset", "BINARY", "path", e.Path, "linkpath", e.Target, "uid", "2097152", "mtime", "1099511627776", "LIBARCHIVE.xattr.%3D", "PQ==")
	e = api.Entry{Path: rep("n", 101), Kind: api.KHard, Target: rep("t", 101)}
	recs(t, e, "path", e.Path, "linkpath", e.Target)
}

// hdrcharset is for a Value that is not valid UTF-8, not for a path or a target
// that stands in the header.
func TestCharset(t *testing.T) {
	for _, bad := range []string{"\xff", "\x80", "\xc0\xaf", "\xed\xa0\x80", "\xf4\x90\x80\x80", "a\xe4\xb8"} {
		for _, path := range []string{"n", bad, rep("n", 101), bad + rep("n", 101), rep("n", 101) + bad} {
			for _, target := range []string{"t", bad, rep("t", 101), bad + rep("t", 101), rep("t", 101) + bad} {
				for _, kind := range []int{api.KHard, api.KSym} {
					e := small(kind)
					e.Path, e.Target = path, target
					var want []string
					if len(path) > 100 && strings.Contains(path, bad) || len(target) > 100 && strings.Contains(target, bad) {
						want = append(want, "hdrcharset", "BINARY")
					}
					if len(path) > 100 {
						want = append(want, "path", path)
					}
					if len(target) > 100 {
						want = append(want, "linkpath", target)
					}
					recs(t, e, want...)
				}
			}
		}
		// A divided path stands in the header, however long it is.
		for _, kind := range kinds {
			e := small(kind)
			e.Path = rep("p", 99) + bad + "/" + bad + rep("n", 50)
			recs(t, e)
			e.Path = rep("\xc3\xa4", 60)
			recs(t, e, "path", e.Path)
		}
		e := small(api.KFile)
		e.Data, e.Meta.Xattrs = bad, xs(bad, bad)
		if l := Recs(e); len(l) != 2 || l[0] != rs("SCHILY.xattr."+bad, bad)[0] {
			t.Errorf("15.2: Recs(%s) = %s", cut(e), cut(l))
		}
	}
}

// What stands in the header of an entry, field by field.
func TestHead(t *testing.T) {
	h := Head(small(api.KFile))
	if want := (api.Header{Name: "docs/a", Mode: 0o644, Uid: 1000, Gid: 100, Size: 5, Mtime: 1700000000, Type: '0'}); h != want {
		t.Errorf("15.2: Head of a small file is %s", cut(h))
	}
	for kind, want := range map[int]api.Header{
		api.KFile:  {Name: rep("n", 100), Mode: 0o644, Size: 5, Type: '0'},
		api.KHard:  {Name: rep("n", 100), Link: rep("t", 100), Type: '1'},
		api.KSym:   {Name: rep("n", 100), Link: rep("t", 100), Mode: 0o777, Type: '2'},
		api.KChar:  {Name: rep("n", 100), Mode: 0o644, Major: 8, Minor: 2097151, Type: '3'},
		api.KBlock: {Name: rep("n", 100), Mode: 0o644, Major: 8, Minor: 2097151, Type: '4'},
		api.KDir:   {Name: rep("n", 100), Mode: 0o1755, Type: '5'},
		api.KFifo:  {Name: rep("n", 100), Mode: 0o644, Type: '6'},
	} {
		e := full(kind)
		e.Path = rep("n", 120)
		if e.Target != "" {
			e.Target = rep("t", 120)
		}
		good(t, e)
		if h := Head(e); h != want {
			t.Errorf("15.2: Head(%s) = %s", cut(e), cut(h))
		}
	}
}

// A path with and without a Prefix, and one that has no division.
func TestDivided(t *testing.T) {
	for _, c := range []struct{ path, prefix, name string }{
		{rep("n", 100), "", rep("n", 100)},
		{"a/" + rep("n", 98), "", "a/" + rep("n", 98)},
		{"a/" + rep("n", 99), "a", rep("n", 99)},
		{"a/" + rep("n", 100), "a", rep("n", 100)},
		{"a/b/" + rep("n", 98), "a", "b/" + rep("n", 98)},
		{rep("p", 155) + "/" + rep("n", 100), rep("p", 155), rep("n", 100)},
		{rep("p", 155) + "/n", rep("p", 155), "n"},
		{rep("p", 100) + "/" + rep("q", 54) + "/" + rep("n", 100), rep("p", 100) + "/" + rep("q", 54), rep("n", 100)},
		{rep("n", 101), "", rep("n", 100)},
		{"a/" + rep("n", 101), "", "a/" + rep("n", 98)},
		{rep("p", 156) + "/" + rep("n", 100), "", rep("p", 100)},
		{rep("p", 156) + "/n", "", rep("p", 100)},
		{rep("p", 20) + "/" + rep("n", 101), "", rep("p", 20) + "/" + rep("n", 79)},
		{rep("p", 99) + "/" + rep("n", 101), "", rep("p", 99) + "/"},
	} {
		for _, kind := range kinds {
			e := small(kind)
			e.Path = c.path
			good(t, e)
			if h := Head(e); h.Prefix != c.prefix || h.Name != c.name {
				t.Errorf("15.2: Head of the path %s has %s and %s", cut(c.path), cut(h.Prefix), cut(h.Name))
			}
			if c.prefix+"/"+c.name == c.path || c.name == c.path {
				recs(t, e)
			} else {
				recs(t, e, "path", c.path)
			}
		}
	}
	for n := 1; n <= 300; n++ {
		for slash := 1; slash < n-1; slash += 1 + n/20 {
			e := small(api.KFile)
			e.Path = rep("p", slash) + "/" + rep("n", n-slash-1)
			if Path(e.Path) {
				good(t, e)
			}
		}
	}
}

func TestLongTarget(t *testing.T) {
	for _, kind := range []int{api.KHard, api.KSym} {
		for _, n := range []int{1, 99, 100, 101, 102, 199, 255, 256, 4095, 4096} {
			e := small(kind)
			e.Target = pathOf(n)
			if n <= 100 {
				recs(t, e)
			} else {
				recs(t, e, "linkpath", e.Target)
			}
			if h := Head(e); h.Link != e.Target[:min(n, 100)] {
				t.Errorf("15.2: Head of a target of %d bytes has %s", n, cut(h.Link))
			}
		}
	}
}

// Owners stand in the header or in a record, each for itself.
func TestLongIds(t *testing.T) {
	ids := []int{0, 1, 1000, 2097150, 2097151, 2097152, 2097153, 16777216, most - 1, most}
	for _, kind := range kinds {
		if kind == api.KHard {
			continue
		}
		for _, uid := range ids {
			for _, gid := range ids {
				e := small(kind)
				e.Meta.Uid, e.Meta.Gid = uid, gid
				good(t, e)
				h, l := Head(e), Recs(e)
				for _, c := range []struct {
					key       string
					id, field int
				}{{"uid", uid, h.Uid}, {"gid", gid, h.Gid}} {
					has := slices.ContainsFunc(l, func(r api.Rec) bool { return r.Key == c.key })
					if has != (c.id > 2097151) || has && c.field != 0 || !has && c.field != c.id {
						t.Errorf("15.2: %s %d: %d in the header, records %s", c.key, c.id, c.field, cut(l))
					}
				}
			}
		}
	}
}

// A time stands in the header or in a record, never in both.
func TestLongTime(t *testing.T) {
	for _, sec := range []int{-lastSec, -8589934592, -2, -1, 0, 1, 1700000000, 8589934590, 8589934591, 8589934592, lastSec - 1, lastSec} {
		for _, nano := range []int{0, 1, 10, 500000000, 999999999} {
			for _, kind := range []int{api.KFile, api.KSym, api.KDir, api.KFifo} {
				e := small(kind)
				e.Meta.Mtime = api.Stamp{Sec: sec, Nano: nano}
				good(t, e)
				l := Recs(e)
				field := Head(e).Mtime
				if nano == 0 && sec >= 0 && sec <= 8589934591 {
					if len(l) > 0 || field != sec {
						t.Errorf("15.2: Mtime %d: %d in the header, records %s", sec, field, cut(l))
					}
				} else if len(l) != 1 || l[0].Key != "mtime" || field != 0 {
					t.Errorf("15.2: Mtime %d and %d: %d in the header, records %s", sec, nano, field, cut(l))
				}
			}
		}
	}
}

// Encodings whose bytes are all written out.
func TestKnown(t *testing.T) {
	zeros := func(n int) string { return rep("\x00", n) }
	file := "docs/a" + zeros(94) + "0000644\x000001750\x000000144\x00" + "00000000005\x0014524770400\x00" + "010363\x00 " + "0" + zeros(100) +
		"ustar\x0000" + zeros(64) + "0000000\x000000000\x00" + zeros(167) + "hello" + zeros(507)
	if got := Put(small(api.KFile)); got != file {
		t.Errorf("15.2: Put of a small file is %q", got)
	}
	e := api.Entry{Path: "d", Kind: api.KDir, Meta: api.Meta{Mode: 0o700, Uid: 2097152}}
	dir := "PaxHeaders" + zeros(90) + "0000644\x000000000\x000000000\x00" + "00000000017\x0000000000000\x00" + "011262\x00 " + "x" + zeros(100) +
		"ustar\x0000" + zeros(64) + "0000000\x000000000\x00" + zeros(167) +
		"15 uid=2097152\n" + zeros(497) +
		"d" + zeros(99) + "0000700\x000000000\x000000000\x00" + "00000000000\x0000000000000\x00" + "007337\x00 " + "5" + zeros(100) +
		"ustar\x0000" + zeros(64) + "0000000\x000000000\x00" + zeros(167)
	if got := Put(e); got != dir {
		t.Errorf("15.2: Put of a directory is %q", got)
	}
	for _, c := range []struct {
		e    api.Entry
		size int
	}{
		{api.Entry{Path: "a", Kind: api.KFile}, 512},
		{api.Entry{Path: "a", Kind: api.KFile, Data: rep("d", 512)}, 1024},
		{api.Entry{Path: "a", Kind: api.KFile, Data: rep("d", 513)}, 1536},
		{api.Entry{Path: "a", Kind: api.KFile, Data: rep("d", 65536)}, 512 + 65536},
		{api.Entry{Path: "a", Kind: api.KHard, Target: rep("t", 101)}, 1536},
		{api.Entry{Path: rep("n", 255), Kind: api.KHard, Target: pathOf(3816)}, 512 + 4096 + 512},
		{api.Entry{Path: rep("n", 255), Kind: api.KHard, Target: pathOf(3817)}, 512 + 4608 + 512},
	} {
		good(t, c.e)
		if got := len(Put(c.e)); got != c.size {
			t.Errorf("15.2: Put(%s) has %d bytes; want %d", cut(c.e), got, c.size)
		}
	}
}

// The library reads what Put writes.
func TestAgainstTheLibrary(t *testing.T) {
	var all []api.Entry
	for _, kind := range kinds {
		divided := small(kind)
		divided.Path = rep("p", 150) + "/" + rep("n", 100)
		all = append(all, small(kind), full(kind), divided)
	}
	var s strings.Builder
	for _, e := range all {
		s.WriteString(Put(e))
	}
	r := tar.NewReader(strings.NewReader(s.String() + rep("\x00", 1024)))
	for _, e := range all {
		h, err := r.Next()
		if err != nil {
			t.Fatalf("15.2: the library says %v of %s", err, cut(e))
		}
		data, _ := io.ReadAll(r)
		at := time.Unix(int64(e.Meta.Mtime.Sec), int64(e.Meta.Mtime.Nano))
		if h.Name != e.Path || h.Linkname != e.Target || string(data) != e.Data || h.Typeflag != byte('0'+e.Kind-1) || !h.ModTime.Equal(at) {
			t.Errorf("15.2: the library reads %+v in %s", h, cut(e))
		}
		if int(h.Mode) != e.Meta.Mode || h.Uid != e.Meta.Uid || h.Gid != e.Meta.Gid || int(h.Devmajor) != e.Major || int(h.Devminor) != e.Minor {
			t.Errorf("15.2: the library reads %+v in %s", h, cut(e))
		}
		records := wantRecs(e)
		for _, want := range records {
			if got := h.PAXRecords[want.Key]; got != want.Value {
				t.Errorf("15.2: the library reads %q in the record %q of %s", got, want.Key, cut(e))
			}
		}
		if len(h.PAXRecords) != len(records) {
			t.Errorf("15.2: the library reads %v of %s", h.PAXRecords, cut(e))
		}
	}
	if _, err := r.Next(); err != io.EOF {
		t.Errorf("15.2: the library says %v at the end", err)
	}
}

// Put of two entries is not the same.
func TestPutDiffers(t *testing.T) {
	known := map[string]api.Entry{}
	for _, e := range some() {
		s := Put(e)
		if other, is := known[s]; is && !equal(e, other) {
			t.Errorf("15.4: %s and %s have one encoding", cut(e), cut(other))
		}
		known[s] = e
	}
	if len(known) < 100 {
		t.Errorf("the test has %d encodings", len(known))
	}
}

// some are valid entries of all kinds, with each record alone and many at once.
func some() []api.Entry {
	var l []api.Entry
	for _, kind := range kinds {
		l = append(l, small(kind), full(kind))
		for _, do := range []func(e *api.Entry){
			func(e *api.Entry) { e.Path = rep("p", 150) + "/" + rep("n", 100) },
			func(e *api.Entry) { e.Path = rep("n", 101) },
			func(e *api.Entry) { e.Path = rep("n", 101) + "\xff" },
			func(e *api.Entry) { e.Path = pathOf(4096) },
			func(e *api.Entry) { e.Target = rep("t", 100) },
			func(e *api.Entry) { e.Target = rep("t", 101) },
			func(e *api.Entry) { e.Target = rep("t", 101) + "\xff" },
			func(e *api.Entry) { e.Data = rep("d", 65536) },
			func(e *api.Entry) { e.Major, e.Minor = 2097151, 0 },
			func(e *api.Entry) { e.Meta.Mode = 0o7777 },
			func(e *api.Entry) { e.Meta.Uid = 2097152 },
			func(e *api.Entry) { e.Meta.Gid = most },
			func(e *api.Entry) { e.Meta.Mtime = api.Stamp{Nano: 1} },
			func(e *api.Entry) { e.Meta.Mtime = api.Stamp{Sec: -lastSec} },
			func(e *api.Entry) { e.Meta.Acl = long(e.Meta.Mode) },
			func(e *api.Entry) { e.Meta.Acl = three(e.Meta.Mode) },
			func(e *api.Entry) { e.Meta.Default = three(0) },
			func(e *api.Entry) { e.Meta.Flags = 9 },
			func(e *api.Entry) { e.Meta.Caps = api.Caps{Ver: 2} },
			func(e *api.Entry) { e.Meta.Caps = api.Caps{Ver: 3, Permitted: math.MaxUint64, Root: most} },
			func(e *api.Entry) { e.Meta.Xattrs = xs("a=", "", "b", "=") },
		} {
			if e := with(small(kind), do); wantMay(e) {
				l = append(l, e)
			}
		}
	}
	return l
}

// The blocks of Put are those that package head reads.
func TestBlocks(t *testing.T) {
	for _, e := range some() {
		good(t, e)
		s := Put(e)
		if len(Recs(e)) > 0 {
			h, bad := head.Get(s)
			want := api.Header{Name: "PaxHeaders", Mode: 420, Type: 'x', Size: len(wantJoin(wantRecs(e)))}
			if bad != api.OK || h != want {
				t.Errorf("15.2: Put(%s) begins with %s, %d", cut(e), cut(h), bad)
			}
			s = s[512+len(padded(wantJoin(wantRecs(e)))):]
		}
		h, bad := head.Get(s)
		if bad != api.OK || h != wantHead(e) || len(s) != 512+len(padded(e.Data)) {
			t.Errorf("15.2: Put(%s) has the header %s, %d", cut(e), cut(h), bad)
		}
		says(t, h, s[512:512+h.Size], wantRecs(e), e)
	}
}
