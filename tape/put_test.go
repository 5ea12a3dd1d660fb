package tape

import (
	"archive/tar"
	"fmt"
	"io"
	"math"
	"math/rand"
	"slices"
	"strings"
	"testing"
	"time"

	"gripsack/api"
	"gripsack/entry"
)

// kinds are all that there are.
var kinds = []int{1, 2, 3, 4, 5, 6, 7}

const most = 2147483647

// list are the parts of an access list: tag, id, perm, tag, id, perm.
func list(n ...int) []api.Ace {
	var l []api.Ace
	for i := 0; i+2 < len(n); i += 3 {
		l = append(l, api.Ace{Tag: n[i], Id: n[i+1], Perm: n[i+2]})
	}
	return l
}

// small is a valid entry of a kind that needs no records.
func small(kind int) api.Entry {
	e := api.Entry{Path: "docs/a", Kind: kind, Meta: api.Meta{Mode: 0o644, Uid: 1000, Gid: 100, Mtime: api.Stamp{Sec: 1700000000}}}
	switch kind {
	case api.KFile:
		e.Data = "hello"
	case api.KHard:
		e.Target, e.Meta = "docs/b", api.Meta{}
	case api.KSym:
		e.Target, e.Meta.Mode = "../b", 0o777
	case api.KChar, api.KBlock:
		e.Major, e.Minor = 8, 2097151
	}
	return e
}

// full is a valid entry of a kind with all the records that it may need.
func full(kind int) api.Entry {
	e := small(kind)
	e.Path = rep("n", 101) + "\xff"
	if e.Target != "" {
		e.Target = rep("t", 101)
	}
	if kind == api.KHard {
		return e
	}
	e.Meta.Uid, e.Meta.Gid = 2097152, most
	e.Meta.Mtime = api.Stamp{Sec: -2, Nano: 500000000}
	e.Meta.Xattrs = xs("a=b", "1", "user.a", "")
	if kind != api.KSym {
		e.Meta.Acl, e.Meta.Flags = list(1, 0, 6, 3, 0, 4, 6, 0, 4), 13
	}
	switch kind {
	case api.KFile:
		e.Meta.Caps = api.Caps{Ver: 2, Effective: true, Permitted: 5}
	case api.KDir:
		e.Meta.Default = list(1, 0, 7, 3, 0, 0, 6, 0, 0)
	}
	return e
}

// all are the entries of all kinds, with and without records.
func all() []api.Entry {
	var l []api.Entry
	for _, kind := range kinds {
		l = append(l, small(kind), full(kind))
	}
	return l
}

// file is a small file.
func file(path, data string) api.Entry {
	return api.Entry{Path: path, Kind: api.KFile, Data: data, Meta: api.Meta{Mode: 0o600, Mtime: api.Stamp{Sec: 9}}}
}

// files are as many small files.
func files(n int) []api.Entry {
	var l []api.Entry
	for i := range n {
		l = append(l, file(fmt.Sprint("f", i), rep("d", i%3)))
	}
	return l
}

// wrong are entries that are not valid, each of them for one cause.
func wrong() []api.Entry {
	var l []api.Entry
	for _, do := range []func(e *api.Entry){
		func(e *api.Entry) { *e = api.Entry{} },
		func(e *api.Entry) { e.Path = "" },
		func(e *api.Entry) { e.Path = "/a" },
		func(e *api.Entry) { e.Path = "a/../b" },
		func(e *api.Entry) { e.Kind = 0 },
		func(e *api.Entry) { e.Kind = 8 },
		func(e *api.Entry) { e.Target = "t" },
		func(e *api.Entry) { e.Data = rep("d", 65537) },
		func(e *api.Entry) { e.Kind = api.KDir },
		func(e *api.Entry) { e.Meta.Mode = 4096 },
		func(e *api.Entry) { e.Meta.Uid = most + 1 },
		func(e *api.Entry) { e.Major = 1 },
		func(e *api.Entry) { e.Meta.Flags = 16 },
		func(e *api.Entry) { e.Meta.Mtime.Nano = -1 },
		func(e *api.Entry) { e.Meta.Xattrs = xs("b", "", "a", "") },
		func(e *api.Entry) { *e = heavy(65537) },
		func(e *api.Entry) { *e = small(api.KSym); e.Target = "" },
		func(e *api.Entry) { *e = small(api.KHard); e.Meta.Mode = 1 },
		func(e *api.Entry) { e.Kind, e.Meta.Uid, e.Path = math.MinInt, math.MaxInt, rep("/", 5000) },
	} {
		e := small(api.KFile)
		do(&e)
		l = append(l, e)
	}
	return l
}

// heavy is a link whose records have as many bytes, near 65536.
func heavy(size int) api.Entry {
	e := small(api.KSym)
	for i := range 6 {
		e.Meta.Xattrs = append(e.Meta.Xattrs, api.Xattr{Name: fmt.Sprint("user.", i), Value: rep("v", 4096)})
	}
	e.Meta.Xattrs = append(e.Meta.Xattrs, api.Xattr{Name: "user.more", Value: rep("v", 2000)})
	left := size - len(lines(entry.Recs(e)))
	e.Target = rep("t", left-len("3000 linkpath=\n"))
	return e
}

func TestExamples(t *testing.T) {
	if s, e := Put(nil); s != zeros(1024) || e != api.OK {
		t.Errorf("16.1: Put of no entries is %s, %d", cut(s), e)
	}
	if l, e := Get(zeros(1024)); len(l) != 0 || e != api.OK {
		t.Errorf("16.2: Get of 1024 bytes 0 is %s, %d", cut(l), e)
	}
	puts(t)
	puts(t, []api.Entry{}...)
}

// header is the block of a header in an archive that is written out: a name, the
// numbers as they stand there, the checksum, the type and the rest.
func header(name, numbers, sum, kind, link, devices, prefix string) string {
	return name + zeros(100-len(name)) + numbers + sum + "\x00 " + kind + link + zeros(100-len(link)) +
		"ustar\x0000" + zeros(64) + devices + prefix + zeros(167-len(prefix))
}

// Archives whose bytes are all written out.
func TestKnown(t *testing.T) {
	const none = "0000000\x000000000\x00"
	plain := "0000644\x000001750\x000000144\x00"
	bare := "0000644\x000000000\x000000000\x00"
	at := "14524770400\x00"
	nothing := "00000000000\x00"
	a := header("docs/a", plain+"00000000005\x00"+at, "010363", "0", "", none, "") + "hello" + zeros(507)
	d := header("PaxHeaders", bare+"00000000017\x00"+nothing, "011262", "x", "", none, "") + "15 uid=2097152\n" + zeros(497) +
		header("d", "0000700\x000000000\x000000000\x00"+nothing+nothing, "007337", "5", "", none, "")
	file := small(api.KFile)
	dir := api.Entry{Path: "d", Kind: api.KDir, Meta: api.Meta{Mode: 0o700, Uid: 2097152}}
	for _, c := range []struct {
		l []api.Entry
		s string
	}{
		{nil, zeros(1024)},
		{[]api.Entry{file}, a + zeros(1024)},
		{[]api.Entry{dir}, d + zeros(1024)},
		{[]api.Entry{file, dir}, a + d + zeros(1024)},
		{[]api.Entry{dir, file, file, dir}, d + a + a + d + zeros(1024)},
	} {
		if got := puts(t, c.l...); got != c.s {
			t.Errorf("16.1: Put(%s) = %s; want %s", cut(c.l), cut(got), cut(c.s))
		}
		gets(t, c.s, c.l...)
	}
}

// known is the encoding of small(kind) and of full(kind), laid out by itself.
func known(kind int) (bare, rich string) {
	h := api.Header{Name: "docs/a", Mode: 0o644, Uid: 1000, Gid: 100, Mtime: 1700000000, Type: byte('0' + kind - 1)}
	ids := "15 uid=2097152\n18 gid=2147483647\n14 mtime=-1.5\n"
	acl := "42 SCHILY.acl.access=u::rw-,g::r--,o::r--\n"
	flags := "36 SCHILY.fflags=uchg,nodump,opaque\n"
	notes := "31 LIBARCHIVE.xattr.a%3Db=MQ==\n24 SCHILY.xattr.user.a=\n28 LIBARCHIVE.xattr.user.a=\n"
	records := ids + acl + flags + notes
	data := ""
	switch kind {
	case api.KFile:
		data, h.Size = "hello", 5
		records = ids + acl + flags + "46 GRIPSACK.caps=AQAAAgUAAAAAAAAAAAAAAAAAAAA=\n" + notes
	case api.KHard:
		h = api.Header{Name: h.Name, Type: h.Type, Link: "docs/b"}
		records = "115 linkpath=" + rep("t", 101) + "\n"
	case api.KSym:
		h.Link, h.Mode = "../b", 0o777
		records = "115 linkpath=" + rep("t", 101) + "\n" + ids + notes
	case api.KChar, api.KBlock:
		h.Major, h.Minor = 8, 2097151
	case api.KDir:
		records = ids + acl + "43 SCHILY.acl.default=u::rwx,g::---,o::---\n" + flags + notes
	}
	records = "21 hdrcharset=BINARY\n112 path=" + rep("n", 101) + "\xff\n" + records
	bare = block(h) + padded(data)
	h.Name, h.Uid, h.Gid, h.Mtime = rep("n", 100), 0, 0, 0
	if h.Link != "" {
		h.Link = rep("t", 100)
	}
	rich = block(api.Header{Name: "PaxHeaders", Mode: 420, Type: 'x', Size: len(records)}) + padded(records) + block(h) + padded(data)
	return bare, rich
}

// An entry of each kind, with and without records, alone and with all others.
func TestKinds(t *testing.T) {
	whole := ""
	for _, kind := range kinds {
		bare, rich := known(kind)
		for _, c := range []struct {
			l []api.Entry
			s string
		}{
			{[]api.Entry{small(kind)}, bare},
			{[]api.Entry{full(kind)}, rich},
			{[]api.Entry{small(kind), full(kind)}, bare + rich},
			{[]api.Entry{full(kind), small(kind), full(kind)}, rich + bare + rich},
		} {
			if got := puts(t, c.l...); got != c.s+end() {
				t.Errorf("16.1: Put(%s) = %s; want %s", cut(c.l), cut(got), cut(c.s+end()))
			}
			gets(t, c.s+end(), c.l...)
		}
		whole += bare + rich
	}
	if got := puts(t, all()...); got != whole+end() {
		t.Errorf("16.1: Put of all kinds = %s; want %s", cut(got), cut(whole+end()))
	}
	gets(t, whole+end(), all()...)
}

// The library reads what Put writes.
func TestAgainstTheLibrary(t *testing.T) {
	l := all()
	for _, kind := range kinds {
		divided := small(kind)
		divided.Path = rep("p", 150) + "/" + rep("n", 100)
		l = append(l, divided)
	}
	l = append(l, file("empty", ""), file("block", rep("b", 512)), file("most", rep("m", 65536)))
	r := tar.NewReader(strings.NewReader(puts(t, l...)))
	for _, e := range l {
		h, err := r.Next()
		if err != nil {
			t.Fatalf("16.1: the library says %v of %s", err, cut(e))
		}
		data, _ := io.ReadAll(r)
		at := time.Unix(int64(e.Meta.Mtime.Sec), int64(e.Meta.Mtime.Nano))
		if h.Name != e.Path || h.Linkname != e.Target || string(data) != e.Data || h.Typeflag != byte('0'+e.Kind-1) || !h.ModTime.Equal(at) {
			t.Errorf("16.1: the library reads %+v in %s", h, cut(e))
		}
		if int(h.Mode) != e.Meta.Mode || h.Uid != e.Meta.Uid || h.Gid != e.Meta.Gid || int(h.Devmajor) != e.Major || int(h.Devminor) != e.Minor {
			t.Errorf("16.1: the library reads %+v in %s", h, cut(e))
		}
		records := entry.Recs(e)
		for _, want := range records {
			if got := h.PAXRecords[want.Key]; got != want.Value {
				t.Errorf("16.1: the library reads %q in the record %q of %s", got, want.Key, cut(e))
			}
		}
		if len(h.PAXRecords) != len(records) {
			t.Errorf("16.1: the library reads %v of %s", h.PAXRecords, cut(e))
		}
	}
	if _, err := r.Next(); err != io.EOF {
		t.Errorf("16.1: the library says %v at the end", err)
	}
}

// Get reads what the library writes.
func TestTheLibrarysOwn(t *testing.T) {
	var l []api.Entry
	var s strings.Builder
	w := tar.NewWriter(&s)
	for _, kind := range kinds {
		e := small(kind)
		e.Path = rep("p", 60) + "/" + rep("n", kind) + rep("n", 60)
		l = append(l, e)
		h := &tar.Header{Format: tar.FormatUSTAR, Name: e.Path, Linkname: e.Target, Typeflag: byte('0' + kind - 1), Size: int64(len(e.Data)), Mode: int64(e.Meta.Mode), Uid: e.Meta.Uid, Gid: e.Meta.Gid, Devmajor: int64(e.Major), Devminor: int64(e.Minor)}
		h.ModTime = time.Unix(int64(e.Meta.Mtime.Sec), 0)
		if err := w.WriteHeader(h); err != nil {
			t.Fatalf("the library says %v of %s", err, cut(e))
		}
		io.WriteString(w, e.Data)
	}
	w.Close()
	gets(t, s.String(), l...)
}

// Each entry that is not valid, at each place among others.
func TestPutWrong(t *testing.T) {
	for _, bad := range wrong() {
		refuses(t, []api.Entry{bad}, api.ErrArg)
		refuses(t, []api.Entry{bad, bad}, api.ErrArg)
		for at := range 15 {
			refuses(t, slices.Insert(all(), at, bad), api.ErrArg)
		}
		refuses(t, slices.Insert(files(255), 255, bad), api.ErrArg)
		// Too many are too many, whichever they are.
		for _, at := range []int{0, 256} {
			refuses(t, slices.Insert(files(256), at, bad), api.ErrLimit)
		}
		refuses(t, slices.Repeat([]api.Entry{bad}, 257), api.ErrLimit)
		refuses(t, slices.Repeat([]api.Entry{bad}, 256), api.ErrArg)
	}
}

func TestPutMany(t *testing.T) {
	for _, n := range []int{1, 2, 3, 64, 255, 256} {
		l := files(n)
		if s := puts(t, l...); len(s) < 1024+512*n {
			t.Errorf("16.1: Put of %d entries has %d bytes", n, len(s))
		}
		for i := range l {
			l[i] = all()[i%14]
		}
		puts(t, l...)
	}
	for _, n := range []int{257, 258, 512, 1000} {
		refuses(t, files(n), api.ErrLimit)
		refuses(t, make([]api.Entry, n), api.ErrLimit)
	}
	refuses(t, make([]api.Entry, 1<<20), api.ErrLimit)
	// As many as may be, each with as much data as may be.
	l := files(256)
	for i := range l {
		l[i].Data = rep(string(rune('a'+i%26)), 65536)
	}
	if s := puts(t, l...); len(s) != 256*(512+65536)+1024 {
		t.Errorf("16.1: Put of the greatest files has %d bytes", len(s))
	}
}

// Data and records of as many bytes as may be, and of one more.
func TestPutGreat(t *testing.T) {
	for _, n := range []int{0, 1, 511, 512, 513, 1023, 1024, 65024, 65025, 65535, 65536} {
		e := file("a", rep("d", n))
		want := 512 + (n+511)/512*512
		if s := puts(t, e); len(s) != want+1024 {
			t.Errorf("16.1: Put of %d bytes of data has %d bytes", n, len(s))
		}
		puts(t, e, small(api.KDir), e)
	}
	refuses(t, []api.Entry{file("a", rep("d", 65537))}, api.ErrArg)
	for _, n := range []int{65024, 65025, 65535, 65536} {
		e := heavy(n)
		if got := len(lines(entry.Recs(e))); got != n {
			t.Fatalf("the test makes %d bytes of records for %d", got, n)
		}
		if s := puts(t, e); len(s) != 512+(n+511)/512*512+512+1024 {
			t.Errorf("16.1: Put of %d bytes of records has %d bytes", n, len(s))
		}
		puts(t, small(api.KFile), e, full(api.KFile), e)
	}
	refuses(t, []api.Entry{heavy(65537)}, api.ErrArg)
}

// mixed is a valid entry, or now and then one that is not.
func mixed(random *rand.Rand) api.Entry {
	e := all()[random.Intn(14)]
	other := all()[random.Intn(14)]
	if random.Intn(3) == 0 {
		e.Path = other.Path
	}
	if random.Intn(4) == 0 && e.Kind != api.KHard {
		e.Meta.Mtime = api.Stamp{Sec: random.Intn(1<<41) - 1<<40, Nano: random.Intn(2) * random.Intn(1000000000)}
	}
	if random.Intn(4) == 0 && e.Kind != api.KHard {
		e.Meta.Xattrs = xs("a"+rep("x", random.Intn(200)), rep("v", random.Intn(4097)), "b", "=")
	}
	if e.Kind == api.KFile {
		e.Data = rep(string(rune('a'+random.Intn(26))), random.Intn(2000))
	}
	switch random.Intn(100) {
	case 0:
		e.Meta = other.Meta
	case 1:
		e.Target = other.Target
	case 2:
		e.Data = "data"
	}
	return e
}

// 16.3: entries of all sorts there and back.
func TestBack(t *testing.T) {
	random := rand.New(rand.NewSource(16))
	met := map[api.Errno]int{}
	for range 1000 {
		var l []api.Entry
		for range random.Intn(12) {
			l = append(l, mixed(random))
		}
		puts(t, l...)
		_, e := wantPut(l)
		met[e]++
	}
	if met[api.OK] < 300 || met[api.ErrArg] < 30 {
		t.Errorf("the test meets %v", met)
	}
}

// Archives of other entries are others.
func TestPutDiffers(t *testing.T) {
	seen := map[string][]api.Entry{}
	for _, a := range all() {
		for _, b := range all() {
			for _, l := range [][]api.Entry{{a}, {a, b}, {a, b, a}} {
				s := puts(t, l...)
				if other, is := seen[s]; is && !same(l, other) {
					t.Errorf("16.3: %s and %s have one archive", cut(l), cut(other))
				}
				seen[s] = l
			}
		}
	}
}
