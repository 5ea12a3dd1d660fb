package entry

import (
	"fmt"
	"math"
	"math/rand"
	"reflect"
	"slices"
	"strings"
	"testing"

	"gripsack/api"
)

// list are the parts of an access list: tag, id, perm, tag, id, perm.
func list(n ...int) []api.Ace {
	var l []api.Ace
	for i := 0; i+2 < len(n); i += 3 {
		l = append(l, api.Ace{Tag: n[i], Id: n[i+1], Perm: n[i+2]})
	}
	return l
}

// three is the access list of three parts for the rights of a mode.
func three(mode int) []api.Ace {
	return list(1, 0, mode/64%8, 3, 0, mode/8%8, 6, 0, mode%8)
}

// long is an access list with users, groups and a mask, for the rights of a
// mode.
func long(mode int) []api.Ace {
	return list(1, 0, mode/64%8, 2, 0, 7, 2, 5, 4, 2, most, 1, 3, 0, 7-mode/8%8, 4, 7, 3, 5, 0, mode/8%8, 6, 0, mode%8)
}

// small is a valid entry of a kind that needs no records.
func small(kind int) api.Entry {
	e := api.Entry{Path: "docs/a", Kind: kind, Meta: api.Meta{Mode: 0o644, Uid: 1000, Gid: 100, Mtime: api.Stamp{Sec: 1700000000}}}
	switch kind {
	case api.KFile:
		e.Data = "hello"
	case api.KHard:
		e.Target, e.Meta = "docs/b", api.Meta{}
	case api.KSym:
		e.Target, e.Meta.Mode = "../b", 0o777
	case api.KChar, api.KBlock:
		e.Major, e.Minor = 8, 2097151
	case api.KDir:
		e.Meta.Mode = 0o1755
	}
	return e
}

// full is a valid entry of a kind with all the records that it may need.
func full(kind int) api.Entry {
	e := small(kind)
	e.Path = "docs/" + rep("n", 120) + "\xff"
	if e.Target != "" {
		e.Target = "docs/" + rep("t", 120)
	}
	if kind == api.KHard {
		return e
	}
	e.Meta.Uid, e.Meta.Gid = 2097152, most
	e.Meta.Mtime = api.Stamp{Sec: -2, Nano: 500000000}
	e.Meta.Xattrs = xs("a=b", "\x00\xff", "trusted.a", "b", "user.a", "")
	if kind != api.KSym {
		e.Meta.Acl, e.Meta.Flags = long(e.Meta.Mode), 13
	}
	switch kind {
	case api.KFile:
		e.Meta.Caps = api.Caps{Ver: 3, Permitted: 1 << 10, Inheritable: 1 << 38, Effective: true, Root: 1000}
	case api.KDir:
		e.Meta.Default = long(0o610)
	}
	return e
}

// copied is e made anew.
func copied(e api.Entry) api.Entry {
	e.Path, e.Data, e.Target = strings.Clone(e.Path), strings.Clone(e.Data), strings.Clone(e.Target)
	e.Meta.Acl, e.Meta.Default, e.Meta.Xattrs = slices.Clone(e.Meta.Acl), slices.Clone(e.Meta.Default), slices.Clone(e.Meta.Xattrs)
	return e
}

// with is e after do.
func with(e api.Entry, do func(e *api.Entry)) api.Entry {
	e = copied(e)
	do(&e)
	return e
}

func TestExamples(t *testing.T) {
	if Path("a/../b") {
		t.Error("15.1: Path of `a/../b`")
	}
	may(t, api.Entry{Path: "a", Kind: api.KSym, Meta: api.Meta{Mode: 511}}, false)
	e := small(api.KFile)
	e.Meta.Uid = 2097152
	if l := Recs(e); !slices.Equal(l, rs("uid", "2097152")) {
		t.Errorf("15.2: Recs of the Uid 2097152 are %s", cut(l))
	}
	if h := Head(small(api.KDir)); h.Type != '5' {
		t.Errorf("15.2: Head of a KDir has the Type %q", h.Type)
	}
	if s := Put(small(api.KFile)); len(s) != 1024 {
		t.Errorf("15.2: Put of five bytes of Data has %d bytes", len(s))
	}
	if e, bad := Over(api.Header{Name: "a", Type: '7'}, "", nil); bad != api.ErrForm || !bare(e) {
		t.Errorf("15.3: Over of the Type `7` is %s, %d", cut(e), bad)
	}
	if x, bad := Over(Head(e), e.Data, Recs(e)); bad != api.OK || !Same(x, e) {
		t.Errorf("15.3: Over of Head and Recs is %s, %d", cut(x), bad)
	}
}

// path tells a fault if Path answers otherwise, or the words do.
func path(t *testing.T, s string, want bool) {
	t.Helper()
	if got := Path(s); got != want {
		t.Errorf("15.1: Path(%s) = %v", cut(s), got)
	}
	if got := wantPath(s); got != want {
		t.Errorf("the words say %v of the path %s", got, cut(s))
	}
}

// paths tells a fault if Path answers otherwise, or May for an entry with that
// path, or for a KHard that leads to it.
func paths(t *testing.T, s string, want bool) {
	t.Helper()
	path(t, s, want)
	for _, kind := range kinds {
		e := small(kind)
		e.Path = s
		agrees(t, e)
		if May(e) != want {
			t.Errorf("15.1: May of kind %d and the path %s", kind, cut(s))
		}
	}
	e := small(api.KHard)
	e.Target = s
	agrees(t, e)
	if May(e) != want {
		t.Errorf("15.1: May of a KHard to %s", cut(s))
	}
}

// pathOf is a path of n bytes, of names of 200 bytes at most.
func pathOf(n int) string {
	return rep(rep("p", 200)+"/", n/201) + rep("q", n%201)
}

func TestPath(t *testing.T) {
	for s, want := range map[string]bool{
		"": false, "a": true, "a/b": true, "a/b/c": true, "/": false, "/a": false, "a/": false, "a//b": false, "//": false, "a/b/": false, "/a/b": false, "a///b": false,
		".": false, "..": false, "...": true, "....": true, ".a": true, "a.": true, "..a": true, "a..": true, ". ": true, " .": true,
		"./a": false, "a/.": false, "../a": false, "a/..": false, "a/./b": false, "a/../b": false, "a/.../b": true, "a/.b/..c": true, ".../...": true,
		"\x00": false, "a\x00": false, "\x00a": false, "a/\x00": false, "a/\x00/b": false, "a\x00/b": false,
		" ": true, "\n": true, "\\": true, "a\\b": true, "a:b": true, "\xff": true, "\xff/\xfe": true, "\xc0\xaf": true, "\xe4\xb8\x80": true, "=": true, "%": true,
		rep("n", 254): true, rep("n", 255): true, rep("n", 256): false, rep("n", 255) + "/a": true, rep("n", 256) + "/a": false, "a/" + rep("n", 255): true, "a/" + rep("n", 256): false, "a/" + rep("n", 256) + "/a": false, rep("\xff", 255): true, rep("\xff", 256): false, rep(".", 255): true,
		rep("a/", 62) + "a": true, rep("a/", 63) + "a": true, rep("a/", 64) + "a": false, rep("a/", 63): false, rep("a/", 64): false, rep("a/", 200) + "a": false,
		rep(rep("n", 255)+"/", 15) + rep("n", 255): true, rep(rep("n", 255)+"/", 16): false, rep(rep("n", 255)+"/", 16) + "n": false, rep(rep("n", 99)+"/", 40) + rep("n", 96): true, rep(rep("n", 99)+"/", 40) + rep("n", 97): false,
		rep("n", 4096): false, rep("n", 4097): false, rep("/", 4096): false, rep("\x00", 4096): false,
	} {
		paths(t, s, want)
	}
	for _, n := range []int{1, 100, 101, 255, 4000, 4095, 4096} {
		if s := pathOf(n); len(s) != n {
			t.Errorf("the test has a path of %d bytes", len(s))
		}
		paths(t, pathOf(n), true)
	}
	paths(t, pathOf(4097), false)
	paths(t, pathOf(4098), false)
}

// Each byte, alone, ahead of a name, in it and behind it.
func TestPathBytes(t *testing.T) {
	for c := range 256 {
		s := string([]byte{byte(c)})
		path(t, s, c != 0 && c != '/' && c != '.')
		path(t, "a"+s+"b", c != 0)
		path(t, s+"b", c != 0 && c != '/')
		path(t, "a"+s, c != 0 && c != '/')
		path(t, s+s, c != 0 && c != '/' && c != '.')
		path(t, "a/"+s+"/b", c != 0 && c != '/' && c != '.')
		path(t, rep("n", 99)+s+rep("n", 99), c != 0)
	}
	random := rand.New(rand.NewSource(151))
	met := map[bool]int{}
	for range 30000 {
		s := ""
		for range random.Intn(12) {
			s += []string{"a", "b", ".", "..", "/", "/", "\x00", "\xff", "..."}[random.Intn(9)]
		}
		want := wantPath(s)
		path(t, s, want)
		met[want]++
	}
	if met[true] < 2000 || met[false] < 2000 {
		t.Errorf("the test meets %v", met)
	}
	// Each place for the one byte that is wrong.
	for at := range 300 {
		s := []byte(pathOf(300))
		s[at] = 0
		path(t, string(s), false)
	}
}

// An entry of each kind, with little and with all that it may have.
func TestKinds(t *testing.T) {
	for _, kind := range kinds {
		good(t, small(kind))
		good(t, full(kind))
		if l := Recs(small(kind)); len(l) > 0 {
			t.Errorf("the test has the records %s for a small entry", cut(l))
		}
	}
	for _, kind := range []int{math.MinInt, -257, -1, 0, 8, 9, 255, 256, 257, 1<<32 + 1, math.MaxInt} {
		for _, other := range kinds {
			for _, e := range []api.Entry{small(other), full(other)} {
				e.Kind = kind
				may(t, e, false)
			}
		}
	}
	// What is right for one kind alone is wrong for others.
	for _, kind := range kinds {
		for _, other := range kinds {
			e := small(kind)
			e.Kind = other
			agrees(t, e)
			e = full(kind)
			e.Kind = other
			agrees(t, e)
		}
	}
}

func TestTarget(t *testing.T) {
	for s, want := range map[string]bool{
		"": false, "a": true, "/": true, "/a/": true, "../../..": true, ".": true, "a//b": true, "\n\xff": true, "\x00": false, "a\x00": false, "\x00a": false,
		rep("t", 99): true, rep("t", 100): true, rep("t", 101): true, rep("/", 4096): true, rep("t", 4095): true, rep("t", 4096): true, rep("t", 4097): false, rep("t", 4095) + "\x00": false, rep("t", 1<<16): false,
	} {
		for _, e := range []api.Entry{small(api.KSym), full(api.KSym)} {
			e.Target = s
			may(t, e, want)
			agrees(t, e)
		}
		for _, kind := range kinds {
			if kind != api.KHard && kind != api.KSym {
				e := small(kind)
				e.Target = s
				may(t, e, s == "")
				e = full(kind)
				e.Target = s
				may(t, e, s == "")
			}
		}
	}
}

// A KHard says nothing beside where it leads to.
func TestHard(t *testing.T) {
	e := small(api.KHard)
	for _, l := range [][]api.Ace{nil, {}, three(0)[:0]} {
		e.Meta.Acl, e.Meta.Default, e.Meta.Xattrs = l, l, []api.Xattr{}
		good(t, e)
	}
	e = small(api.KHard)
	leaves(reflect.ValueOf(&e.Meta).Elem(), func(v reflect.Value) {
		before := reflect.ValueOf(v.Interface())
		for _, other := range turned(v) {
			v.Set(reflect.ValueOf(other))
			may(t, e, false)
		}
		v.Set(before)
	})
	for _, do := range []func(e *api.Entry){
		func(e *api.Entry) { e.Meta.Acl = three(0) },
		func(e *api.Entry) { e.Meta.Default = three(0) },
		func(e *api.Entry) { e.Meta.Xattrs = xs("a", "b") },
		func(e *api.Entry) { e.Meta = small(api.KFile).Meta },
		func(e *api.Entry) { e.Data = "d" },
		func(e *api.Entry) { e.Major = 1 },
		func(e *api.Entry) { e.Minor = 1 },
		func(e *api.Entry) { e.Target = "" },
	} {
		may(t, with(small(api.KHard), do), false)
	}
}

func TestData(t *testing.T) {
	for _, kind := range kinds {
		for _, data := range []string{"", "d", "\x00", rep("d", 511), rep("d", 512), rep("\x00", 513), rep("d", 65535), rep("d", 65536), rep("d", 65537), rep("d", 1<<20)} {
			for _, e := range []api.Entry{small(kind), full(kind)} {
				e.Data = data
				want := data == "" || kind == api.KFile && len(data) <= 65536
				may(t, e, want)
				agrees(t, e)
			}
		}
	}
}

func TestDevice(t *testing.T) {
	numbers := []int{math.MinInt, -1 << 32, -2097152, -1, 0, 1, 8, 2097150, 2097151, 2097152, 2097153, 1 << 32, 1<<32 + 1, math.MaxInt}
	for _, kind := range kinds {
		for _, e := range []api.Entry{small(kind), full(kind)} {
			for _, major := range numbers {
				for _, minor := range numbers {
					e.Major, e.Minor = major, minor
					want := major == 0 && minor == 0
					if kind == api.KChar || kind == api.KBlock {
						want = major >= 0 && major <= 2097151 && minor >= 0 && minor <= 2097151
					}
					may(t, e, want)
					agrees(t, e)
				}
			}
		}
	}
}

// flaw makes one field wrong.
type flaw struct {
	name string
	do   func(e *api.Entry)
}

// flaws are wrong for every kind.
func flaws() []flaw {
	return []flaw{
		{"Path", func(e *api.Entry) { e.Path = "" }},
		{"Path", func(e *api.Entry) { e.Path += "/" }},
		{"Path", func(e *api.Entry) { e.Path = "../" + e.Path }},
		{"Path", func(e *api.Entry) { e.Path += "\x00" }},
		{"Kind", func(e *api.Entry) { e.Kind = 0 }},
		{"Kind", func(e *api.Entry) { e.Kind = 8 }},
		{"Mode", func(e *api.Entry) { e.Meta.Mode += 4096 }},
		{"Mode", func(e *api.Entry) { e.Meta.Mode -= 4096 }},
		{"Uid", func(e *api.Entry) { e.Meta.Uid = -1 }},
		{"Uid", func(e *api.Entry) { e.Meta.Uid = most + 1 }},
		{"Gid", func(e *api.Entry) { e.Meta.Gid = -1 }},
		{"Gid", func(e *api.Entry) { e.Meta.Gid = most + 1 }},
		{"Mtime", func(e *api.Entry) { e.Meta.Mtime.Nano = 1000000000 }},
		{"Mtime", func(e *api.Entry) { e.Meta.Mtime.Nano = -1 }},
		{"Mtime", func(e *api.Entry) { e.Meta.Mtime.Sec = lastSec + 1 }},
		{"Mtime", func(e *api.Entry) { e.Meta.Mtime.Sec = -lastSec - 1 }},
		{"Flags", func(e *api.Entry) { e.Meta.Flags = 16 }},
		{"Flags", func(e *api.Entry) { e.Meta.Flags = -1 }},
		{"Xattrs", func(e *api.Entry) { e.Meta.Xattrs = xs("b", "1", "a", "2") }},
		{"Xattrs", func(e *api.Entry) { e.Meta.Xattrs = xs("", "1") }},
		{"Acl", func(e *api.Entry) { e.Meta.Acl = three(e.Meta.Mode ^ 1) }},
		{"Acl", func(e *api.Entry) { e.Meta.Acl = make([]api.Ace, 1) }},
		{"Default", func(e *api.Entry) { e.Meta.Default = three(0)[1:] }},
		{"Caps", func(e *api.Entry) { e.Meta.Caps = api.Caps{Ver: 1} }},
		{"Caps", func(e *api.Entry) { e.Meta.Caps = api.Caps{Permitted: 1} }},
		{"Data", func(e *api.Entry) { e.Data = rep("d", 65537) }},
		{"Target", func(e *api.Entry) { e.Target = "\x00" }},
		{"Target", func(e *api.Entry) { e.Target = rep("t", 4097) }},
		{"Major", func(e *api.Entry) { e.Major = -1 }},
		{"Major", func(e *api.Entry) { e.Major = 2097152 }},
		{"Minor", func(e *api.Entry) { e.Minor = -1 }},
		{"Minor", func(e *api.Entry) { e.Minor = 2097152 }},
	}
}

// Each field wrong alone, and each two of them, for each kind.
func TestFlaws(t *testing.T) {
	for _, kind := range kinds {
		for _, e := range []api.Entry{small(kind), full(kind)} {
			for _, a := range flaws() {
				one := with(e, a.do)
				may(t, one, false)
				same(t, one, e, false)
				for _, b := range flaws() {
					if two := with(one, b.do); a.name != b.name && May(two) {
						t.Errorf("15.1: May(%s) with a wrong %s and %s", cut(two), a.name, b.name)
					}
				}
			}
			good(t, e)
		}
	}
}

// filled is an entry whose Recs have this many bytes together: six attributes of
// 4096 bytes, a shorter one, and a path of the bytes that are missing.
func filled(size int) api.Entry {
	e := small(api.KFile)
	e.Path = rep("p", 150)
	for i := range 6 {
		e.Meta.Xattrs = append(e.Meta.Xattrs, api.Xattr{Name: fmt.Sprintf("user.%02d", i), Value: rep("v", 4096)})
	}
	rest := size - len(wantJoin(wantRecs(e)))
	// The shorter one leaves some 1000 bytes to the path.
	e.Meta.Xattrs = append(e.Meta.Xattrs, api.Xattr{Name: "user.99", Value: rep("v", (rest-1000)/7*3)})
	rest = size - len(wantJoin(wantRecs(e)))
	e.Path = rep(rep("p", 99)+"/", rest/100) + rep("q", rest%100) + e.Path
	for len(wantJoin(wantRecs(e))) > size {
		e.Path = e.Path[1:]
	}
	return e
}

// The records of an entry have MaxPax bytes at most.
func TestMaxPax(t *testing.T) {
	for size := maxPax - 300; size <= maxPax+20; size++ {
		e := filled(size)
		if got := len(wantJoin(wantRecs(e))); got != size {
			t.Fatalf("the test has records of %d bytes, not of %d", got, size)
		}
		may(t, e, size <= maxPax)
		agrees(t, e)
		// The records may say so in fewer bytes: it is the entry that may not be.
		half := slices.DeleteFunc(wantRecs(e), func(r api.Rec) bool { return strings.HasPrefix(r.Key, "LIBARCHIVE.") })
		if size <= maxPax {
			says(t, wantHead(e), e.Data, half, e)
		} else {
			fails(t, wantHead(e), e.Data, half)
			fails(t, wantHead(e), e.Data, wantRecs(e))
		}
	}
	e := small(api.KFile)
	for i := range 32 {
		e.Meta.Xattrs = append(e.Meta.Xattrs, api.Xattr{Name: fmt.Sprintf("user.%02d", i), Value: rep("v", 4096)})
		may(t, e, i < 6)
	}
	// A record less, as the Name has a `=`: more of them find room.
	for i := range e.Meta.Xattrs {
		e.Meta.Xattrs[i].Name += "="
	}
	for n := range 33 {
		some := e
		some.Meta.Xattrs = e.Meta.Xattrs[:n]
		may(t, some, n <= 11)
	}
}

// same tells a fault if Same answers otherwise, in either order.
func same(t *testing.T, a, b api.Entry, want bool) {
	t.Helper()
	if got := Same(a, b); got != want {
		t.Errorf("15.3: Same(%s, %s) = %v", cut(a), cut(b), got)
	}
	if got := Same(b, a); got != want {
		t.Errorf("15.3: Same(%s, %s) = %v", cut(b), cut(a), got)
	}
}

// leaves calls do with each number, text and bool of v, as it is met.
func leaves(v reflect.Value, do func(v reflect.Value)) {
	switch v.Kind() {
	case reflect.Struct:
		for i := range v.NumField() {
			leaves(v.Field(i), do)
		}
	case reflect.Slice:
		for i := range v.Len() {
			leaves(v.Index(i), do)
		}
	default:
		do(v)
	}
}

// turned are all that differ from v in a way that is easily overlooked.
func turned(v reflect.Value) []any {
	switch n := v.Interface().(type) {
	case int:
		return []any{n + 1, n - 1, -n - 1, n ^ 1<<31, n ^ 1<<32, n ^ math.MinInt}
	case uint64:
		return []any{n + 1, n - 1, n ^ 1<<31, n ^ 1<<32, n ^ 1<<63}
	case bool:
		return []any{!n}
	case string:
		return []any{n + "x", n + "\x00", "x" + n, strings.ToUpper(n) + "_"}
	}
	panic("the test meets a field of another type")
}

// Entries that differ in one field alone, or in one part of one element of a
// list, are not the same.
func TestSame(t *testing.T) {
	most := full(api.KFile)
	most.Meta.Default, most.Target, most.Major, most.Minor = long(0o17), "t", 7, 8
	for _, one := range []api.Entry{{}, most, full(api.KDir), small(api.KSym)} {
		e := copied(one)
		count := 0
		leaves(reflect.ValueOf(&e).Elem(), func(v reflect.Value) {
			count++
			before := reflect.ValueOf(v.Interface())
			for _, other := range turned(v) {
				v.Set(reflect.ValueOf(other))
				same(t, e, one, false)
			}
			v.Set(before)
			same(t, e, one, true)
		})
		if want := 17 + 3*len(e.Meta.Acl) + 3*len(e.Meta.Default) + 2*len(e.Meta.Xattrs); count != want {
			t.Errorf("the test turns %d parts of %s; want %d", count, cut(e), want)
		}
	}
	e := most
	e.Path, e.Data = most.Data, most.Path
	same(t, e, most, false)
	e = most
	e.Path, e.Target = most.Target, most.Path
	same(t, e, most, false)
	e = most
	e.Major, e.Minor = most.Minor, most.Major
	same(t, e, most, false)
	e = most
	e.Meta.Acl = e.Meta.Acl[:3]
	same(t, e, most, false)
	e = small(api.KFile)
	e.Meta.Acl, e.Meta.Default, e.Meta.Xattrs = []api.Ace{}, []api.Ace{}, []api.Xattr{}
	same(t, e, small(api.KFile), true)
	for _, a := range kinds {
		for _, b := range kinds {
			same(t, small(a), copied(small(b)), a == b)
			same(t, full(a), copied(full(b)), a == b)
			same(t, full(a), small(b), false)
		}
	}
}

// pick is one of them.
func pick[T any](random *rand.Rand, l ...T) T { return l[random.Intn(len(l))] }

// mixedPath is a path; few of them are wrong.
func mixedPath(random *rand.Rand) string {
	switch random.Intn(16) {
	case 0:
		return pick(random, "", "/", "a/", "a//b", "./a", "a/..", "a\x00", rep("n", 256), pathOf(4097), rep("a/", 64)+"a")
	case 1:
		return pick(random, rep("n", 255), pathOf(4096), rep("a/", 63)+"a", "...", "\xff")
	}
	s := ""
	for range random.Intn(5) {
		s += rep(pick(random, "a", "b", "\xff", "\xc3\xa4", "x y"), 1+random.Intn(50)) + "/"
	}
	return s + rep(pick(random, "n", "\xfe", "."), 3+random.Intn(110))
}

// mixed is an entry of which many are valid.
func mixed(random *rand.Rand) api.Entry {
	one := func(usual int, others ...int) int {
		if random.Intn(20) > 0 {
			return usual
		}
		return pick(random, others...)
	}
	kind := one(1+random.Intn(7), 0, 8, -1)
	e := api.Entry{Path: mixedPath(random), Kind: kind}
	switch kind {
	case api.KHard:
		e.Target = mixedPath(random)
		if random.Intn(10) > 0 {
			return e
		}
	case api.KSym:
		e.Target = pick(random, mixedPath(random), "../x", rep("t", 100), rep("\x80", 101), rep("t", 4096))
	}
	mode := one(random.Intn(4096), -1, 4096)
	if kind == api.KSym {
		mode = one(511, 510)
	}
	e.Meta = api.Meta{Mode: mode, Uid: one(random.Intn(1<<22), 0, most, most+1, -1), Gid: one(random.Intn(1<<22), 2097151, 2097152, most, most+1)}
	e.Meta.Mtime = api.Stamp{Sec: one(random.Intn(1<<34)-1<<32, lastSec, lastSec+1, -lastSec, -lastSec-1, 1<<33-1, 1<<33), Nano: one(random.Intn(2)*random.Intn(1000000000), -1, 1000000000)}
	if kind != api.KSym || random.Intn(20) == 0 {
		e.Meta.Acl = pick(random, nil, nil, []api.Ace{}, three(mode&511), long(mode&511), three(511))
		e.Meta.Flags = one(random.Intn(2)*random.Intn(16), 16, -1)
	}
	if kind == api.KDir || random.Intn(20) == 0 {
		e.Meta.Default = pick(random, nil, three(0), long(511), three(0)[:2])
	}
	if kind == api.KFile || random.Intn(20) == 0 {
		e.Meta.Caps = pick(random, api.Caps{}, api.Caps{}, api.Caps{Ver: 2, Permitted: 1 << 40}, api.Caps{Ver: 3, Root: most}, api.Caps{Ver: 1})
		e.Data = rep("d", one(random.Intn(2)*random.Intn(2000), 65536, 65537))
	}
	if kind == api.KChar || kind == api.KBlock || random.Intn(20) == 0 {
		e.Major, e.Minor = one(random.Intn(300), 2097151, 2097152, -1), one(random.Intn(300), 2097151, 2097152, -1)
	}
	e.Meta.Xattrs = pick(random, nil, nil, []api.Xattr{}, xs("a", "b"), xs("a=", "b", "c%", "d\x00"), xs("b", "", "a", ""), xs("a", rep("v", 4096)))
	return e
}

// 15.4, with entries of all sorts.
func TestMixed(t *testing.T) {
	random := rand.New(rand.NewSource(154))
	met := map[int]map[bool]int{}
	for range 15000 {
		e := mixed(random)
		if met[e.Kind] == nil {
			met[e.Kind] = map[bool]int{}
		}
		met[e.Kind][agrees(t, e)]++
		same(t, e, copied(e), true)
	}
	for _, kind := range kinds {
		if met[kind][true] < 500 || met[kind][false] < 100 {
			t.Errorf("the test meets %v for kind %d", met[kind], kind)
		}
	}
}

func FuzzPath(f *testing.F) {
	f.Add("a/b")
	f.Add("a/../b")
	f.Add("a\x00")
	f.Add(rep("a/", 63) + "a")
	f.Add(rep("n", 256))
	f.Fuzz(func(t *testing.T, s string) {
		path(t, s, wantPath(s))
		path(t, "a/"+s, wantPath("a/"+s))
	})
}

func FuzzMay(f *testing.F) {
	f.Add(1, "a/b", "", "hello", 420, 5, 6, 9, 0, 0, 0, 0, "user.a", "b")
	f.Add(2, "a", "b", "", 0, 0, 0, 0, 0, 0, 0, 0, "", "")
	f.Add(3, rep("n", 200)+"\xff", rep("t", 200), "", 511, 2097152, most, -1, 500000000, 0, 0, 0, "", "")
	f.Add(5, "dev", "", "", 4095, 0, 0, 1<<33, 0, 15, 2097151, 8, "a=b", "\x00")
	f.Fuzz(func(t *testing.T, kind int, path, target, data string, mode, uid, gid, sec, nano, flags, major, minor int, name, value string) {
		e := api.Entry{Path: path, Kind: kind, Data: data, Target: target, Major: major, Minor: minor}
		agrees(t, e)
		e.Meta = api.Meta{Mode: mode, Uid: uid, Gid: gid, Mtime: api.Stamp{Sec: sec, Nano: nano}, Flags: flags}
		agrees(t, e)
		same(t, e, copied(e), true)
		e.Meta.Acl = three(mode & 511)
		agrees(t, e)
		if name+value != "" {
			e.Meta.Xattrs = xs(name, value)
			agrees(t, e)
		}
	})
}
