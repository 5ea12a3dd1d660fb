package tape

import (
	"math"
	"slices"
	"strings"
	"testing"

	"gripsack/api"
	"gripsack/entry"
)

// code is the encoding of one entry.
func code(e api.Entry) string { return entry.Put(e) }

// records are a header of a type and the text behind it.
func records(kind byte, s string) string {
	return block(api.Header{Name: "h", Type: kind, Size: len(s)}) + padded(s)
}

// own are the records of the next entry: key, value, key, value.
func own(l ...string) string { return records('x', lines(rs(l...))) }

// shared are the records of all entries from then on.
func shared(l ...string) string { return records('g', lines(rs(l...))) }

// with is e after do, in memory of its own.
func with(e api.Entry, do func(e *api.Entry)) api.Entry {
	e.Meta.Acl, e.Meta.Default, e.Meta.Xattrs = slices.Clone(e.Meta.Acl), slices.Clone(e.Meta.Default), slices.Clone(e.Meta.Xattrs)
	do(&e)
	return e
}

func timed(e api.Entry, sec int) api.Entry {
	return with(e, func(e *api.Entry) { e.Meta.Mtime = api.Stamp{Sec: sec} })
}

func named(e api.Entry, path string) api.Entry {
	return with(e, func(e *api.Entry) { e.Path = path })
}

// What stands behind the end is ignored, whatever it is.
func TestBehind(t *testing.T) {
	for _, l := range [][]api.Entry{nil, {file("a", "")}, {full(api.KDir), small(api.KFile)}, all()} {
		s := puts(t, l...)
		for _, behind := range []string{"", "\x00", "x", zeros(511), zeros(512), zeros(1024), zeros(9728), rep("\xff", 511), rep("x", 512), rep("x", 5000),
			s, code(file("b", "b")), code(full(api.KFile)), own(), own("path", "b"), own() + own(), shared("path", ""), "6 a=b\n",
			block(api.Header{Name: "h", Type: '7'}), block(api.Header{Name: "h", Size: 1 << 40}), "BAD" + zeros(509)} {
			gets(t, s+behind, l...)
		}
	}
}

func TestEnd(t *testing.T) {
	a := file("a", "")
	for _, ahead := range []struct {
		s string
		l []api.Entry
	}{{"", nil}, {code(a), []api.Entry{a}}, {shared("comment", "c"), nil}, {code(full(api.KFile)) + code(a), []api.Entry{full(api.KFile), a}}} {
		gets(t, ahead.s+zeros(1024), ahead.l...)
		fails(t, ahead.s, api.ErrMore)
		for _, n := range []int{1, 2, 511, 512, 513, 1000, 1023} {
			fails(t, ahead.s+zeros(n), api.ErrMore)
		}
		// Whatever these bytes are, they are too few.
		for _, n := range []int{1, 100, 511} {
			fails(t, ahead.s+rep("x", n), api.ErrMore)
			fails(t, ahead.s+zeros(512)+rep("x", n), api.ErrMore)
			fails(t, ahead.s+zeros(512)+code(a)[:n], api.ErrMore)
		}
		for _, c := range []string{"\x01", "0", " ", "\xff"} {
			for _, at := range []int{0, 1, 255, 510, 511} {
				odd := zeros(at) + c + zeros(511-at)
				fails(t, ahead.s+zeros(512)+odd, api.ErrForm)
				fails(t, ahead.s+zeros(512)+odd+zeros(4096), api.ErrForm)
				fails(t, ahead.s+odd+zeros(1024), api.ErrForm)
			}
		}
		fails(t, ahead.s+zeros(512)+rep("x", 512), api.ErrForm)
		// A gap of one block is none.
		fails(t, ahead.s+zeros(512)+code(a)+zeros(1024), api.ErrForm)
		fails(t, ahead.s+zeros(512)+own()+zeros(1024), api.ErrForm)
	}
	for n := range 1024 {
		fails(t, zeros(n), api.ErrMore)
	}
}

// The records of an `x` are said of the next entry alone.
func TestOwn(t *testing.T) {
	a, b := file("a", ""), file("b", "data")
	hard, sym, dir := small(api.KHard), small(api.KSym), small(api.KDir)
	for _, c := range []struct {
		s string
		l []api.Entry
	}{
		{own("path", "c") + code(a), []api.Entry{named(a, "c")}},
		{own("path", "c") + code(a) + code(b), []api.Entry{named(a, "c"), b}},
		{code(a) + own("path", "c") + code(b), []api.Entry{a, named(b, "c")}},
		{own("path", "c") + code(a) + own("mtime", "5") + code(b), []api.Entry{named(a, "c"), timed(b, 5)}},
		{own("path", "c", "mtime", "5", "path", "d") + code(a), []api.Entry{timed(named(a, "d"), 5)}},
		{own("path", "c", "path", "") + code(a), []api.Entry{a}},
		{own("linkpath", "c") + code(a) + code(hard), []api.Entry{a, hard}},
		{code(a) + own("linkpath", "c") + code(hard), []api.Entry{a, with(hard, func(e *api.Entry) { e.Target = "c" })}},
		{own("linkpath", "/c") + code(sym), []api.Entry{with(sym, func(e *api.Entry) { e.Target = "/c" })}},
		{own("uid", "7", "gid", "8") + code(dir) + code(dir), []api.Entry{with(dir, func(e *api.Entry) { e.Meta.Uid, e.Meta.Gid = 7, 8 }), dir}},
		{own("SCHILY.xattr.n", "v") + code(a) + code(b), []api.Entry{with(a, func(e *api.Entry) { e.Meta.Xattrs = xs("n", "v") }), b}},
		{own("SCHILY.fflags", "uchg") + code(a) + own("GRIPSACK.caps", "AQAAAgUAAAAAAAAAAAAAAAAAAAA=") + code(b), []api.Entry{
			with(a, func(e *api.Entry) { e.Meta.Flags = 1 }),
			with(b, func(e *api.Entry) { e.Meta.Caps = api.Caps{Ver: 2, Effective: true, Permitted: 5} })}},
		{own("comment", "c", "hdrcharset", "BINARY") + code(a), []api.Entry{a}},
		// No records at all are records.
		{own() + code(a), []api.Entry{a}},
		{own() + code(a) + own() + code(b) + own("path", "c") + code(b), []api.Entry{a, b, named(b, "c")}},
		{own("path", "c") + code(a) + own() + code(b), []api.Entry{named(a, "c"), b}},
		{own() + code(small(api.KFifo)), []api.Entry{small(api.KFifo)}},
		// What the `x` itself is called says nothing.
		{block(api.Header{Name: "/../x", Type: 'x', Mode: 1 << 40, Uid: 1 << 40, Mtime: -5, Link: "l", Major: 1 << 40, Uname: "u", Prefix: "/"}) + code(a), []api.Entry{a}},
	} {
		gets(t, c.s+end(), c.l...)
		gets(t, code(b)+c.s+code(b)+end(), append(append([]api.Entry{b}, c.l...), b)...)
		gets(t, shared("comment", "c")+shared()+c.s+end(), c.l...)
		fails(t, c.s, api.ErrMore)
	}
}

// An `x` must have an entry of its own.
func TestOwnAlone(t *testing.T) {
	a := code(file("a", ""))
	for _, x := range []string{own(), own("path", "c"), own("comment", "c", "mtime", "5"), own("path", "/"), own("mtime", "x")} {
		for _, ahead := range []string{"", a, shared("path", "c"), a + own("mtime", "5") + a} {
			for _, between := range []string{"", shared(), shared("mtime", "6"), shared() + shared("path", "q")} {
				fails(t, ahead+x+between+end(), api.ErrForm)
				fails(t, ahead+x+between+zeros(512), api.ErrMore)
				fails(t, ahead+x+between, api.ErrMore)
				for _, other := range []string{own(), own("path", "d"), x} {
					fails(t, ahead+x+between+other+a+end(), api.ErrForm)
					fails(t, ahead+x+between+other, api.ErrForm)
					fails(t, ahead+x+between+other+shared()+a, api.ErrForm)
				}
			}
		}
	}
	gets(t, own("path", "c")+shared("mtime", "6")+a+end(), timed(file("c", ""), 6))
}

// The records of a `g` are said of all entries from then on.
func TestShared(t *testing.T) {
	a, b, c := file("a", ""), file("b", "data"), file("c", "")
	x, y, z := code(a), code(b), code(c)
	for _, q := range []struct {
		s string
		l []api.Entry
	}{
		{shared("mtime", "5") + x + y + z, []api.Entry{timed(a, 5), timed(b, 5), timed(c, 5)}},
		{x + shared("mtime", "5") + y + z, []api.Entry{a, timed(b, 5), timed(c, 5)}},
		{x + y + shared("mtime", "5") + z, []api.Entry{a, b, timed(c, 5)}},
		{x + y + z + shared("mtime", "5"), []api.Entry{a, b, c}},
		// The later one of two with one Key counts.
		{shared("mtime", "5", "mtime", "6") + x, []api.Entry{timed(a, 6)}},
		{shared("mtime", "5") + shared("mtime", "6") + x, []api.Entry{timed(a, 6)}},
		{shared("mtime", "5") + x + shared("mtime", "6") + y + shared("mtime", "7") + z, []api.Entry{timed(a, 5), timed(b, 6), timed(c, 7)}},
		{shared("mtime", "5", "path", "q") + shared("mtime", "6", "comment", "c") + x, []api.Entry{timed(named(a, "q"), 6)}},
		{shared("mtime", "5") + shared() + shared("comment", "c") + x, []api.Entry{timed(a, 5)}},
		// Records of an entry's own count more, wherever they stand.
		{shared("mtime", "5") + own("mtime", "6") + x + y, []api.Entry{timed(a, 6), timed(b, 5)}},
		{own("mtime", "6") + shared("mtime", "5") + x + y, []api.Entry{timed(a, 6), timed(b, 5)}},
		{own("mtime", "6") + shared("mtime", "5") + shared("mtime", "4") + x + y, []api.Entry{timed(a, 6), timed(b, 4)}},
		{shared("mtime", "5", "path", "q") + own("mtime", "6") + x + y, []api.Entry{timed(named(a, "q"), 6), timed(named(b, "q"), 5)}},
		{shared("mtime", "5") + own() + x + y, []api.Entry{timed(a, 5), timed(b, 5)}},
		// Without a Value the header counts again.
		{shared("mtime", "5") + shared("mtime", "") + x + y, []api.Entry{a, b}},
		{shared("mtime", "5", "mtime", "") + x, []api.Entry{a}},
		{shared("mtime", "5") + x + shared("mtime", "") + y, []api.Entry{timed(a, 5), b}},
		{shared("mtime", "5") + own("mtime", "") + x + y, []api.Entry{a, timed(b, 5)}},
		{shared("mtime", "") + own("mtime", "6") + x + y, []api.Entry{timed(a, 6), b}},
		{shared("mtime", "") + shared("mtime", "5") + x, []api.Entry{timed(a, 5)}},
		{own("mtime", "") + shared("mtime", "5") + x + y, []api.Entry{a, timed(b, 5)}},
		// None of them, and none at all.
		{shared() + x, []api.Entry{a}}, {shared() + shared() + x + shared(), []api.Entry{a}}, {shared(), nil}, {shared("mtime", "5"), nil},
	} {
		gets(t, q.s+end(), q.l...)
		gets(t, q.s+shared("uid", "x")+end(), q.l...)
		gets(t, z+q.s+end(), append([]api.Entry{c}, q.l...)...)
		fails(t, q.s, api.ErrMore)
	}
}

// A `g` says what a record may say, of each kind that it may be said of.
func TestSharedKinds(t *testing.T) {
	for _, c := range []struct {
		key, value string
		kinds      []int
		set        func(e *api.Entry)
	}{
		{"path", "q/r", kinds, func(e *api.Entry) { e.Path = "q/r" }},
		{"path", rep("q", 255), kinds, func(e *api.Entry) { e.Path = rep("q", 255) }},
		{"linkpath", "q", kinds, func(e *api.Entry) {
			if e.Target != "" {
				e.Target = "q"
			}
		}},
		{"uid", "2147483647", kinds, func(e *api.Entry) { e.Meta.Uid = most }},
		{"gid", "0", kinds, func(e *api.Entry) { e.Meta.Gid = 0 }},
		{"mtime", "-1.5", kinds, func(e *api.Entry) { e.Meta.Mtime = api.Stamp{Sec: -2, Nano: 500000000} }},
		{"SCHILY.acl.access", "u::rw-,g::r--,o::r--", []int{1, 2, 4, 5, 6, 7}, func(e *api.Entry) { e.Meta.Acl = list(1, 0, 6, 3, 0, 4, 6, 0, 4) }},
		{"SCHILY.acl.default", "u::rwx,g::---,o::---", []int{2, 6}, func(e *api.Entry) { e.Meta.Default = list(1, 0, 7, 3, 0, 0, 6, 0, 0) }},
		{"SCHILY.fflags", "uchg", []int{1, 2, 4, 5, 6, 7}, func(e *api.Entry) { e.Meta.Flags = 1 }},
		{"GRIPSACK.caps", "AQAAAgUAAAAAAAAAAAAAAAAAAAA=", []int{1, 2}, func(e *api.Entry) { e.Meta.Caps = api.Caps{Ver: 2, Effective: true, Permitted: 5} }},
		{"SCHILY.xattr.a", "b", kinds, func(e *api.Entry) { e.Meta.Xattrs = xs("a", "b") }},
		{"LIBARCHIVE.xattr.a%3D", "Yg==", kinds, func(e *api.Entry) { e.Meta.Xattrs = xs("a=", "b") }},
		{"hdrcharset", "BINARY", kinds, func(e *api.Entry) {}},
		{"comment", "c", kinds, func(e *api.Entry) {}},
	} {
		for _, kind := range kinds {
			g, e := shared(c.key, c.value), small(kind)
			if !slices.Contains(c.kinds, kind) {
				fails(t, g+code(e)+end(), api.ErrForm)
				fails(t, code(e)+g+code(e)+end(), api.ErrForm)
				continue
			}
			said := with(e, c.set)
			if kind == api.KHard {
				said.Meta = api.Meta{}
			}
			gets(t, g+code(e)+code(e)+end(), said, said)
			gets(t, code(e)+g+code(e)+end(), e, said)
			gets(t, own(c.key, c.value)+code(e)+code(e)+end(), said, e)
		}
	}
	// What two of them and an `x` say of one entry is all said.
	e := small(api.KFile)
	s := shared("SCHILY.xattr.a", "1", "SCHILY.xattr.b", "1") + shared("SCHILY.xattr.b", "2", "SCHILY.xattr.c", "2") + own("SCHILY.xattr.c", "3", "SCHILY.xattr.d", "3") + code(e) + code(e) + end()
	gets(t, s, with(e, func(e *api.Entry) { e.Meta.Xattrs = xs("a", "1", "b", "2", "c", "3", "d", "3") }),
		with(e, func(e *api.Entry) { e.Meta.Xattrs = xs("a", "1", "b", "2", "c", "2") }))
}

// Each Type, of the header of an entry and of records.
func TestTypes(t *testing.T) {
	for c := range 256 {
		kind, is := map[int]int{0: 1, '0': 1, '1': 2, '2': 3, '3': 4, '4': 5, '5': 6, '6': 7}[c]
		s := block(api.Header{Name: "n", Mode: 0o777, Link: "l", Major: 8, Minor: 9, Type: byte(c)})
		switch {
		case is:
			e := api.Entry{Path: "n", Kind: kind, Meta: api.Meta{Mode: 0o777}}
			switch kind {
			case api.KHard:
				e.Target, e.Meta = "l", api.Meta{}
			case api.KSym:
				e.Target = "l"
			case api.KChar, api.KBlock:
				e.Major, e.Minor = 8, 9
			}
			gets(t, s+end(), e)
			gets(t, s+s+own("path", "q")+s+end(), e, e, named(e, "q"))
		case c == 'x':
			fails(t, s+end(), api.ErrForm)
			gets(t, s+code(small(api.KFile))+end(), small(api.KFile))
		case c == 'g':
			gets(t, s+end())
			gets(t, s+code(small(api.KFile))+s+end(), small(api.KFile))
		default:
			fails(t, s, api.ErrForm)
			fails(t, s+end(), api.ErrForm)
			fails(t, code(small(api.KFile))+s+end(), api.ErrForm)
			fails(t, own("path", "q")+s+end(), api.ErrForm)
		}
	}
}

// Data that a header tells of an entry of another kind than KFile.
func TestDataOfKinds(t *testing.T) {
	for _, kind := range kinds {
		h := entry.Head(small(kind))
		h.Size = 3
		if kind == api.KFile {
			gets(t, block(h)+padded("abc")+end(), with(small(kind), func(e *api.Entry) { e.Data = "abc" }))
		} else {
			fails(t, block(h)+padded("abc")+end(), api.ErrForm)
		}
		fails(t, block(h), api.ErrMore)
		fails(t, block(h)+"abc", api.ErrMore)
		fails(t, block(h)+"abc"+zeros(508), api.ErrMore)
		fails(t, block(h)+"abcd"+zeros(508)+end(), api.ErrForm)
		h.Size = 65537
		fails(t, block(h), api.ErrLimit)
	}
}

// comment is a text of records of as many bytes, 20 at least, which say nothing.
func comment(n int) string {
	return lines(rs("c", rep("v", 14+n%20))) + rep("20 c=vvvvvvvvvvvvvv\n", n/20-1)
}

// Sizes of as many bytes as may be, and of more.
func TestSizes(t *testing.T) {
	a, behind := code(file("a", "")), code(file("b", ""))
	great := []int{65537, 65538, 66048, 1 << 17, 1 << 33, 1<<33 - 1, 1 << 40, 1 << 62, 1<<62 + 1, math.MaxInt}
	for _, n := range great {
		for _, kind := range []byte("xg0123456\x007Z") {
			s := block(api.Header{Name: "h", Type: kind, Size: n})
			for _, ahead := range []string{"", a, shared("path", "q")} {
				fails(t, ahead+s, api.ErrLimit)
				fails(t, ahead+s+end(), api.ErrLimit)
				fails(t, ahead+s+zeros(70000), api.ErrLimit)
				fails(t, ahead+s+rep("x", 1<<17)+behind+end(), api.ErrLimit)
			}
			fails(t, own()+s, api.ErrLimit)
			fails(t, own("path", "q")+shared()+s, api.ErrLimit)
		}
	}
	for _, n := range []int{0, 1, 511, 512, 513, 65024, 65025, 65535, 65536} {
		e := file("f", rep("d", n))
		gets(t, code(e)+end(), e)
		gets(t, a+code(e)+behind+end(), file("a", ""), e, file("b", ""))
		h := block(api.Header{Name: "h", Type: '0', Size: n})
		if n > 0 {
			fails(t, h, api.ErrMore)
			fails(t, h+rep("d", n-1), api.ErrMore)
		}
	}
	for _, n := range []int{20, 39, 40, 511, 512, 513, 1000, 65024, 65025, 65535, 65536} {
		s := comment(n)
		if len(s) != n {
			t.Fatalf("the test makes %d bytes of records for %d", len(s), n)
		}
		gets(t, records('x', s)+a+end(), file("a", ""))
		gets(t, records('g', s)+a+behind+end(), file("a", ""), file("b", ""))
		gets(t, records('g', s)+records('x', s)+a+records('g', s)+records('x', s)+behind+end(), file("a", ""), file("b", ""))
		fails(t, records('x', s)[:512+n-1], api.ErrMore)
		fails(t, records('g', s)[:512+n-1], api.ErrMore)
	}
	// More of them than one header may have, together.
	s := rep(records('g', comment(65536)), 20)
	gets(t, s+shared("mtime", "5")+a+s+behind+end(), timed(file("a", ""), 5), timed(file("b", ""), 5))
	// One record of as many bytes as a record may have.
	one := lines(rs("comment", rep("c", 65536-15)))
	if len(one) != 65536 {
		t.Fatalf("the test makes a record of %d bytes", len(one))
	}
	gets(t, records('x', one)+a+end(), file("a", ""))
	gets(t, records('g', one)+a+end(), file("a", ""))
}

// As many entries as may be, and one more.
func TestMany(t *testing.T) {
	whole := ""
	l := files(256)
	for _, e := range l {
		whole += code(e)
	}
	a := code(file("a", "data"))
	gets(t, whole+end(), l...)
	gets(t, whole+shared("path", "q")+end(), l...)
	for _, c := range []struct {
		s string
		e api.Errno
	}{
		{"", api.ErrMore}, {zeros(512), api.ErrMore}, {a[:511], api.ErrMore}, {rep("x", 511), api.ErrMore},
		{a + end(), api.ErrLimit}, {a, api.ErrLimit}, {a[:512], api.ErrLimit}, {a[:600], api.ErrLimit}, {a + a + a, api.ErrLimit},
		// Whatever the next one is, it is one too many.
		{block(api.Header{Name: "n", Type: '7'}), api.ErrLimit}, {block(api.Header{Name: "/", Type: '0'}), api.ErrLimit}, {block(api.Header{Name: "n", Type: '0', Size: 65537}), api.ErrLimit},
		{block(api.Header{Name: "n", Size: 1}) + rep("x", 512), api.ErrLimit}, {block(api.Header{}), api.ErrLimit},
		{code(small(api.KDir)) + end(), api.ErrLimit}, {code(small(api.KHard)) + end(), api.ErrLimit},
		{own("path", "/") + a + end(), api.ErrLimit}, {shared("mtime", "x") + a + end(), api.ErrLimit},
		{own() + a + end(), api.ErrLimit}, {shared() + a + end(), api.ErrLimit}, {code(full(api.KFile)) + end(), api.ErrLimit},
		// Records are no entries.
		{own() + end(), api.ErrForm}, {own(), api.ErrMore}, {own() + own() + a, api.ErrForm}, {records('x', "x"), api.ErrForm}, {records('g', "x"), api.ErrForm}, {shared(), api.ErrMore},
		{block(api.Header{Name: "n", Type: 'x', Size: 65537}), api.ErrLimit}, {block(api.Header{Name: "n", Type: 'g', Size: 1}), api.ErrMore},
		{"BAD" + zeros(1021), api.ErrForm}, {rep("x", 512), api.ErrForm}, {zeros(512) + rep("x", 512), api.ErrForm}, {zeros(512) + a, api.ErrForm},
	} {
		fails(t, whole+c.s, c.e)
	}
	// One fewer may have one more, with records or without.
	start := whole[:len(whole)-len(code(l[255]))]
	gets(t, start+end(), l[:255]...)
	for _, e := range all() {
		gets(t, start+code(e)+end(), append(files(255), e)...)
		gets(t, code(e)+start+end(), append([]api.Entry{e}, files(255)...)...)
		fails(t, code(e)+whole+end(), api.ErrLimit)
	}
}

// wrongRecords are texts that are no records.
func wrongRecords() []string {
	return []string{"x", "\n", " ", "6 a=b", "6 a=b\n\n", "6 a=b\n\x00", "06 a=b\n", "7 a=b\n", "5 a=b\n", "6 a b\n", "5 =b\n", "6 a=b ", "-6 a=b\n", "+6 a=b\n", " 6 a=b\n", "6  a=b\n", "6 a=b\n6 a=b", "6 a=b\n06 a=b\n", "99999999999999999999 a=b\n", lines(rs(rep("k", 256), "v")), "\x00", zeros(512), "6 a=b\n" + zeros(506), rep("x", 65536), lines(rs("a", "b"))[:5]}
}

// Records that are none, in an `x` and in a `g`.
func TestWrongRecords(t *testing.T) {
	a := code(file("a", ""))
	for _, s := range wrongRecords() {
		for _, kind := range []byte("xg") {
			bad := records(kind, s)
			for _, ahead := range []string{"", a, shared("path", "q"), own("path", "q")} {
				fails(t, ahead+bad, api.ErrForm)
				fails(t, ahead+bad+a+end(), api.ErrForm)
				fails(t, ahead+bad+end(), api.ErrForm)
				fails(t, ahead+bad[:len(bad)-1], api.ErrMore)
			}
		}
	}
}

// Records whose Values say nothing of an entry: of the next one in an `x`, of
// each one in a `g`.
func TestWrongValues(t *testing.T) {
	a, b := file("a", ""), file("b", "data")
	x, y := code(a), code(b)
	for _, l := range [][]string{{"uid", "x"}, {"uid", "07"}, {"gid", "2147483648"}, {"mtime", "1.50"}, {"mtime", "bad"}, {"hdrcharset", ""}, {"hdrcharset", "UTF-8"}, {"SCHILY.acl.access", ""}, {"SCHILY.acl.default", "u::rw-"}, {"SCHILY.fflags", "schg"}, {"GRIPSACK.caps", "A"}, {"LIBARCHIVE.xattr.a", "YQ"}, {"LIBARCHIVE.xattr.%41", "YQ=="}, {"SCHILY.xattr.", "v"},
		// These can be decoded, but no file may be so.
		{"path", "/"}, {"path", "a/../b"}, {"path", "c/"}, {"path", "."}, {"path", rep("n", 256)}, {"SCHILY.acl.access", "u::rwx,g::---,o::---"}, {"SCHILY.acl.default", "u::rwx,g::---,o::---"}, {"SCHILY.xattr.a", rep("v", 4097)}} {
		gets(t, shared(l...)+end())
		gets(t, x+shared(l...)+end(), a)
		fails(t, shared(l...), api.ErrMore)
		fails(t, own(l...), api.ErrMore)
		for _, ahead := range []string{"", y, shared("mtime", "5"), y + own() + y} {
			for _, said := range []string{own(l...), shared(l...), own(l...) + shared(), shared(l...) + own(), shared(l...) + shared("mtime", "5") + own()} {
				fails(t, ahead+said+x, api.ErrForm)
				fails(t, ahead+said+x+end(), api.ErrForm)
				fails(t, ahead+said+x+y+end(), api.ErrForm)
				// The entry must be all there: its data may be missing yet.
				fails(t, ahead+said+y[:512], api.ErrMore)
				fails(t, ahead+said+x[:511], api.ErrMore)
			}
		}
	}
	// A path that may not be may be replaced; a number that is none may not.
	gets(t, shared("path", "/")+own("path", "q")+x+end(), named(a, "q"))
	gets(t, shared("path", "/")+own("path", "")+x+end(), a)
	gets(t, shared("path", "/")+shared("path", "")+x+end(), a)
	fails(t, shared("path", "/")+own("path", "q")+x+x+end(), api.ErrForm)
	fails(t, shared("uid", "x")+own("uid", "7")+x+end(), api.ErrForm)
	fails(t, shared("uid", "x")+shared("uid", "7")+x+end(), api.ErrForm)
	fails(t, shared("uid", "x")+shared("uid", "")+x+end(), api.ErrForm)
}

// Headers that are none, and headers of entries that may not be.
func TestWrongHeaders(t *testing.T) {
	a := code(file("a", ""))
	good := api.Header{Name: "n", Mode: 0o600, Type: '0'}
	for _, do := range []func(h *api.Header){
		func(h *api.Header) { h.Name = "" },
		func(h *api.Header) { h.Name = "n/" },
		func(h *api.Header) { h.Name = ".." },
		func(h *api.Header) { h.Prefix = "/" },
		func(h *api.Header) { h.Mode = 4096 },
		func(h *api.Header) { h.Uid = most + 1 },
		func(h *api.Header) { h.Mtime = 1<<40 + 1 },
		func(h *api.Header) { h.Type = '1' },
		func(h *api.Header) { h.Type = '2' },
		func(h *api.Header) { h.Type = '7' },
		func(h *api.Header) { h.Type, h.Major = '3', 2097152 },
	} {
		h := good
		do(&h)
		for _, ahead := range []string{"", a, shared("gid", "7"), own("comment", "c")} {
			fails(t, ahead+block(h), api.ErrForm)
			fails(t, ahead+block(h)+end(), api.ErrForm)
			fails(t, ahead+block(h)+a+end(), api.ErrForm)
			fails(t, ahead+block(h)[:511], api.ErrMore)
		}
	}
	s := block(good)
	for _, bad := range []string{rep("x", 512), rep("\xff", 512), rep(" ", 512), "BAD" + zeros(509), zeros(511) + "x", s[1:] + "n", s[:148] + "000000\x00 " + s[156:], strings.ToUpper(s), sealed(s[:257] + "ustar  \x00" + s[265:]), sealed(s[:500] + "x" + s[501:]), sealed(s[:50] + "x" + s[51:]), sealed(s[:100] + field(0o600, 8)[1:] + " " + s[108:])} {
		for _, ahead := range []string{"", a, shared("path", "q"), own("path", "q")} {
			fails(t, ahead+bad, api.ErrForm)
			fails(t, ahead+bad+end(), api.ErrForm)
			fails(t, ahead+bad[:511], api.ErrMore)
		}
	}
}

// Of two errors at one header the chapter's first, and of two at two headers
// that of the first header.
func TestFirstError(t *testing.T) {
	a := code(file("a", ""))
	dirty := func(kind byte, size int) string {
		return block(api.Header{Name: "n", Type: kind, Size: size}) + rep("x", 512)
	}
	huge := func(kind byte) string { return block(api.Header{Name: "n", Type: kind, Size: 65537}) }
	short := func(kind byte) string { return block(api.Header{Name: "n", Type: kind, Size: 6}) + "x" }
	for _, c := range []struct {
		s string
		e api.Errno
	}{
		// Records: too many, missing, dirty behind, none, a second `x`.
		{huge('x'), api.ErrLimit}, {huge('g'), api.ErrLimit}, {own() + huge('x'), api.ErrLimit}, {own() + huge('x') + rep("x", 1<<17), api.ErrLimit},
		{own() + short('x'), api.ErrMore}, {own() + short('x') + rep("x", 510), api.ErrMore}, {own() + short('x') + rep("x", 511), api.ErrForm}, {own() + short('g'), api.ErrMore},
		{own() + dirty('x', 1), api.ErrForm}, {own() + records('x', "xyz"), api.ErrForm}, {dirty('x', 6), api.ErrForm}, {dirty('g', 513), api.ErrMore}, {dirty('x', 513) + rep("x", 511), api.ErrMore},
		{own() + block(api.Header{Type: 'x', Size: 512}), api.ErrMore},
		// An entry: too great, missing, dirty behind, one that may not be.
		{huge('7'), api.ErrLimit}, {huge('0'), api.ErrLimit}, {own("uid", "x") + huge('0'), api.ErrLimit}, {shared("uid", "x") + huge('5'), api.ErrLimit},
		{short('7'), api.ErrMore}, {short('0'), api.ErrMore}, {own("uid", "x") + short('0'), api.ErrMore}, {shared("uid", "x") + short('5'), api.ErrMore}, {short('7') + zeros(510), api.ErrMore}, {short('7') + zeros(511), api.ErrForm},
		{dirty('0', 1), api.ErrForm}, {dirty('0', 513), api.ErrMore}, {own("uid", "x") + dirty('0', 1), api.ErrForm},
		// The end: missing, not all 0, an `x` that waits.
		{own() + zeros(512), api.ErrMore}, {own() + zeros(512) + rep("x", 511), api.ErrMore}, {own() + zeros(512) + rep("x", 512), api.ErrForm}, {own() + zeros(1023), api.ErrMore},
		// The first header's.
		{"BAD" + zeros(509) + huge('0'), api.ErrForm}, {huge('0') + "BAD" + zeros(509), api.ErrLimit}, {huge('x') + zeros(100), api.ErrLimit},
		{block(api.Header{Name: "/"}) + huge('0'), api.ErrForm}, {block(api.Header{Name: "/"}) + short('0'), api.ErrForm}, {a + block(api.Header{Name: "/"}), api.ErrForm},
		{dirty('0', 1) + huge('0'), api.ErrForm}, {own() + own() + huge('0'), api.ErrForm}, {own() + own(), api.ErrForm}, {own() + own() + zeros(512), api.ErrForm},
		{own("uid", "x") + own(), api.ErrForm}, {own("uid", "x") + huge('g'), api.ErrLimit}, {own("uid", "x") + end(), api.ErrForm}, {shared("uid", "x") + a + huge('0'), api.ErrForm}, {shared("uid", "x") + huge('0') + a, api.ErrLimit},
		{records('x', "xyz") + huge('x'), api.ErrForm}, {records('g', "xyz") + a[:100], api.ErrForm}, {zeros(512) + huge('0'), api.ErrForm},
	} {
		fails(t, c.s, c.e)
		fails(t, a+c.s, c.e)
		fails(t, shared("gid", "7")+c.s, c.e)
	}
}

// An archive cut at every place.
func TestCuts(t *testing.T) {
	d := file("d", rep("d", 513))
	for _, s := range []string{
		puts(t),
		puts(t, file("a", "")),
		puts(t, full(api.KFile), d, small(api.KSym)),
		shared("mtime", "5") + own("path", "q") + code(d) + shared() + own() + code(d) + end(),
		code(file("a", rep("d", 512))) + own() + shared("uid", "x") + shared() + code(d) + end(),
		// These are wrong, at some place: no entry of what is ahead of it is told.
		code(d) + own() + own() + end(),
		code(d) + own("path", "/") + code(d) + end(),
		code(d) + block(api.Header{Name: "n", Size: 65537}) + end(),
		code(d) + records('g', "xyz") + end(),
		code(d) + rep("x", 1024),
		code(d) + zeros(512) + rep("x", 1024),
	} {
		whole, at := agrees(t, s), len(s)
		for n := range len(s) {
			e := agrees(t, s[:n])
			if e != api.ErrMore && e != whole {
				t.Errorf("16.2: Get of %d of %d bytes is %d", n, len(s), e)
			}
			if e != api.ErrMore {
				at = min(at, n)
			}
			if e == api.ErrMore && n > at {
				t.Errorf("16.2: Get of %d bytes is ErrMore, and that of %d is not", n, at)
			}
		}
		if whole == api.OK && at < len(s) {
			t.Errorf("16.2: Get of %d of %d bytes is not ErrMore", at, len(s))
		}
		if whole != api.OK && (at%512 != 0 || at == len(s)) {
			t.Errorf("16.2: Get of %d bytes is the first that is not ErrMore", at)
		}
	}
}

// turned is s with the byte at an index made another.
func turned(s string, at int, by byte) string {
	b := []byte(s)
	b[at] ^= by
	return string(b)
}

// A byte turned at every place.
func TestTurned(t *testing.T) {
	a, b := file("a", "data"), file("b", rep("d", 600))
	for _, by := range []byte{1, 0x20, 0x80, 0xff} {
		// Of headers, of what fills data and of the end each byte counts.
		parts := []struct {
			s    string
			data int // so many bytes behind the header are no filling
			is   api.Entry
		}{
			{shared("mtime", "9"), 12, api.Entry{}}, {code(a), 4, a}, {own("mtime", "9"), 12, api.Entry{}}, {code(b), 600, b}, {zeros(1024), 0, api.Entry{}},
		}
		for i, p := range parts {
			ahead, behind := "", ""
			for j, q := range parts {
				if j < i {
					ahead += q.s
				} else if j > i {
					behind += q.s
				}
			}
			gets(t, ahead+p.s+behind, a, b)
			for at := range len(p.s) {
				s := ahead + turned(p.s, at, by) + behind
				inData := at >= 512 && at < 512+p.data
				switch {
				case !inData:
					fails(t, s, api.ErrForm)
				case p.is.Kind == 0:
					agrees(t, s)
				default:
					other := with(p.is, func(e *api.Entry) { e.Data = turned(e.Data, at-512, by) })
					l := []api.Entry{a, b}
					l[slices.IndexFunc(l, func(e api.Entry) bool { return e.Path == other.Path })] = other
					gets(t, s, l...)
				}
			}
		}
	}
	// In records: a byte of the number, of the frame, of a Value.
	x := code(a)
	g := shared("mtime", "9", "path", "q")
	gets(t, g+x+end(), named(a, "q"))
	for at, c := range "11 mtime=9\n8 path=q\n" {
		s := g[:512+at] + "5" + g[513+at:] + x + end()
		switch {
		case c == '9':
			gets(t, s, timed(named(a, "q"), 5))
		case c == 'q':
			gets(t, s, named(a, "5"))
		case c >= 'a' && c <= 'z':
			// A Key that there is not says nothing.
			l := []api.Entry{named(a, "q")}
			if at > 10 {
				l[0].Path = "a"
			}
			gets(t, s, l...)
		default:
			fails(t, s, api.ErrForm)
		}
	}
}
