package tape

import (
	"math"
	"math/rand"
	"slices"
	"strings"
	"testing"
	"unsafe"

	"gripsack/api"
	"gripsack/entry"
)

func pick[T any](random *rand.Rand, l ...T) T { return l[random.Intn(len(l))] }

// mixedRecs are records of which now and then one says nothing.
func mixedRecs(random *rand.Rand) []api.Rec {
	var l []api.Rec
	for range random.Intn(4) {
		key := pick(random, "path", "mtime", "mtime", "uid", "gid", "linkpath", "comment", "SCHILY.xattr.a", "SCHILY.xattr.b")
		value := pick(random, "5", "6", "7", "1000", "")
		if random.Intn(60) == 0 {
			value = pick(random, "x", "/", "07")
		}
		l = append(l, rs(key, value)...)
	}
	return l
}

// mixedPiece is a piece of an archive, and its bytes.
func mixedPiece(random *rand.Rand) (piece, string) {
	switch random.Intn(6) {
	case 0, 1:
		p := piece{recs: mixedRecs(random), read: true}
		s := lines(p.recs)
		p.h = api.Header{Name: "h", Type: pick(random, byte('x'), 'g'), Size: len(s)}
		return spoilt(random, p, s)
	}
	e := mixed(random)
	p := piece{h: entry.Head(e), data: e.Data, read: true}
	if random.Intn(60) == 0 {
		p.h.Type = pick(random, byte('7'), 'L', 255)
	}
	return spoilt(random, p, e.Data)
}

// spoilt is a piece with something wrong in it now and then.
func spoilt(random *rand.Rand, p piece, s string) (piece, string) {
	bytes := block(p.h) + padded(s)
	switch random.Intn(150) {
	case 0:
		p.wrong, p.h.Size = api.ErrLimit, 65537
		return p, block(p.h) + padded(s)
	case 1:
		p.wrong, p.read = api.ErrForm, false
		return p, turned(bytes, random.Intn(512), 1)
	case 2:
		if p.h.Size%512 != 0 {
			p.wrong = api.ErrForm
			return p, turned(bytes, len(bytes)-1, 1)
		}
	case 3:
		if p.h.Type == 'x' || p.h.Type == 'g' {
			p.wrong, p.h.Size = api.ErrForm, 5
			return p, block(p.h) + padded("05 =\n")
		}
	}
	return p, bytes
}

// mixedEnd is an end, or none, and its bytes.
func mixedEnd(random *rand.Rand) (piece, string) {
	switch random.Intn(16) {
	case 0:
		return piece{wrong: api.ErrMore}, zeros(random.Intn(512))
	case 1:
		return piece{wrong: api.ErrMore, end: true}, zeros(512 + random.Intn(512))
	case 2:
		return piece{wrong: api.ErrForm, end: true}, zeros(512) + turned(zeros(512), random.Intn(512), 1)
	case 3:
		return piece{end: true}, zeros(1024) + rep("x", random.Intn(1000))
	}
	return piece{end: true}, end()
}

// Archives of all sorts of pieces. What they mean is known from the pieces, not
// read from their bytes.
func TestMixed(t *testing.T) {
	random := rand.New(rand.NewSource(162))
	met := map[api.Errno]int{}
	count := 0
	for range 12000 {
		var l []piece
		var s strings.Builder
		for range random.Intn(8) {
			p, bytes := mixedPiece(random)
			l = append(l, p)
			s.WriteString(bytes)
		}
		p, bytes := mixedEnd(random)
		s.WriteString(bytes)
		want, e := said(append(l, p))
		met[e]++
		count += len(want)
		if e == api.OK {
			gets(t, s.String(), want...)
			again(t, s.String())
		} else {
			fails(t, s.String(), e)
		}
		agrees(t, s.String()[:random.Intn(s.Len()+1)])
	}
	if met[api.OK] < 2000 || met[api.ErrForm] < 1000 || met[api.ErrMore] < 500 || met[api.ErrLimit] < 100 || count < 5000 {
		t.Errorf("the test meets %v, and %d entries", met, count)
	}
}

// again tells a fault if the entries of an archive, encoded anew, are others.
func again(t *testing.T, s string) {
	t.Helper()
	l, e := Get(s)
	if e != api.OK {
		return
	}
	if s, bad := Put(l); bad != api.OK {
		t.Errorf("16.3: Put(%s) is %d", cut(l), bad)
	} else if got, bad := Get(s); bad != api.OK || !same(got, l) {
		t.Errorf("16.3: Get(Put(%s)) = %s, %d", cut(l), cut(got), bad)
	}
}

// R1: whatever is given, nothing panics, and each call ends.
func TestNoPanic(t *testing.T) {
	for _, n := range []int{math.MinInt, -1 << 32, -1, 0, 8, 1 << 32, math.MaxInt} {
		e := api.Entry{Path: rep("\x00", 5000), Kind: n, Data: "d", Target: rep("/", 5000), Major: n, Minor: n}
		e.Meta = api.Meta{Mode: n, Uid: n, Gid: n, Mtime: api.Stamp{Sec: n, Nano: n}, Flags: n, Caps: api.Caps{Ver: n, Root: n}, Acl: make([]api.Ace, 1000), Xattrs: make([]api.Xattr, 1000)}
		refuses(t, []api.Entry{e}, api.ErrArg)
		for _, kind := range kinds {
			e.Kind = kind
			refuses(t, []api.Entry{small(kind), e}, api.ErrArg)
		}
	}
	for _, c := range []string{"\x00", "\x80", "\xff", "x", "0", " ", "\n"} {
		for _, n := range []int{1, 511, 512, 513, 1023, 1024, 1025, 1 << 20} {
			agrees(t, rep(c, n))
		}
	}
	// Very many headers, and very many records.
	a := code(file("a", ""))
	gets(t, rep(shared(), 1<<15)+a+end(), file("a", ""))
	gets(t, rep(shared("mtime", "5", "mtime", "", "path", "q", "path", ""), 1<<14)+rep(a, 20)+end(), slices.Repeat([]api.Entry{file("a", "")}, 20)...)
	fails(t, rep(shared(), 1<<15), api.ErrMore)
	fails(t, rep(own()+a, 300), api.ErrLimit)
}

// scribble writes over a list and its spare capacity.
func scribble[T any](l []T, with T) {
	l = l[:cap(l)]
	for i := range l {
		l[i] = with
	}
}

// inside tells whether part lies in the memory of s. Strings of no byte or of
// one may stand at one place for all.
func inside(part, s string) bool {
	if len(part) < 2 {
		return false
	}
	at := uintptr(unsafe.Pointer(unsafe.StringData(part)))
	first := uintptr(unsafe.Pointer(unsafe.StringData(s)))
	return at >= first && at < first+uintptr(len(s))
}

func texts(l []api.Entry) []string {
	var out []string
	for _, e := range l {
		out = append(out, e.Path, e.Target, e.Data)
		for _, x := range e.Meta.Xattrs {
			out = append(out, x.Name, x.Value)
		}
	}
	return out
}

// R3: an answer shares no memory with an argument or with another answer, and
// no two lists of it share any.
func TestNewMemory(t *testing.T) {
	acls := shared("SCHILY.acl.access", "u::rw-,g::---,o::---", "SCHILY.xattr.name", "value", "LIBARCHIVE.xattr.name2", "dmFsdWU=")
	a := code(file("docs/a", "data"))
	for _, s := range []string{puts(t, all()...), acls + a + own("path", "docs/b") + a + a + a + a + end()} {
		l, _ := Get(s)
		other, _ := Get(s)
		want, _ := wantGet(s)
		for _, part := range texts(l) {
			if inside(part, s) {
				t.Errorf("R3: the answer %s shares memory with what was given", cut(part))
			}
		}
		for i, e := range l {
			// Each other entry, and the same one of another answer, stays.
			scribble(e.Meta.Acl, api.Ace{Tag: 77})
			scribble(e.Meta.Default, api.Ace{Tag: 78})
			scribble(e.Meta.Xattrs, api.Xattr{Name: "scribbled"})
			if !same(l[i+1:], want[i+1:]) || !same(other, want) {
				t.Fatalf("R3: entries share memory: %s", cut(l))
			}
		}
		scribble(l, api.Entry{Path: "scribbled"})
		if got, _ := Get(s); !same(other, want) || !same(got, want) {
			t.Errorf("R3: two answers share memory: %s", cut(other))
		}
	}
}

// R3: Put changes nothing that it is given, and keeps nothing of it.
func TestPutKeepsNothing(t *testing.T) {
	given := append(all(), file("behind", ""))
	first := puts(t, given[:14]...)
	if !same(given[:14], all()) || given[14].Path != "behind" {
		t.Errorf("R3: Put changes its entries: %s", cut(given))
	}
	for _, part := range texts(given) {
		if inside(first[:2], part) {
			t.Errorf("R3: the answer lies in %s", cut(part))
		}
	}
	if inside(first, puts(t, given[:14]...)) || inside(puts(t), puts(t)) {
		t.Error("R3: two answers of Put share memory")
	}
	scribble(given, api.Entry{Path: "scribbled"})
	if got := puts(t, all()...); got != first {
		t.Error("R1: Put answers otherwise the second time")
	}
}

// The way of the chapter: missing bytes panic inside, and nothing else does.
func TestWay(t *testing.T) {
	ends := func(s string) {
		t.Helper()
		want, bad := wantGet(s)
		defer func() {
			got := recover()
			if _, is := got.(missing); is != (bad == api.ErrMore) || got != nil && !is {
				t.Errorf("16, Ways: the decoding of %s panics with %T", cut(s), got)
			}
		}()
		if got, e := decode(s); e != bad || !same(got, want) {
			t.Errorf("16, Ways: the decoding of %s gives %s, %d", cut(s), cut(got), e)
		}
	}
	d := code(file("d", "data"))
	for _, s := range []string{puts(t), puts(t, full(api.KFile)), d + own() + d + end(), d + own() + end(), own() + own() + end(), d + rep("x", 1024), zeros(512) + rep("x", 1024), records('x', "xyz"), block(api.Header{Name: "n", Size: 65537}), block(api.Header{Name: "n", Size: 65536}), own("path", "/") + d} {
		ends(s)
		for n := 0; n < len(s); n += 1 + n%7 {
			ends(s[:n])
		}
	}
}

// sealedAll puts the right checksum in each block that looks like a header.
func sealedAll(s string) string {
	var out strings.Builder
	for ; len(s) >= 512; s = s[512:] {
		if s[257:265] == "ustar\x0000" {
			out.WriteString(sealed(s[:512]))
		} else {
			out.WriteString(s[:512])
		}
	}
	return out.String() + s
}

func FuzzGet(f *testing.F) {
	a := code(file("a", "data"))
	for _, e := range all() {
		f.Add(code(e)+end(), true)
	}
	for _, s := range []string{
		"", zeros(512), end(), end() + "behind", a + a + end(), a, a + zeros(512) + rep("x", 512),
		own("path", "q") + a + end(), own() + end(), own() + shared() + own() + a + end(),
		shared("mtime", "5") + a + shared("mtime", "6") + own("mtime", "") + a + end(),
		records('x', "x") + a + end(), block(api.Header{Name: "n", Type: 'g', Size: 65537}), block(api.Header{Name: "n", Type: '7'}),
	} {
		f.Add(s, false)
		f.Add(s, true)
	}
	f.Fuzz(func(t *testing.T, s string, seal bool) {
		if seal {
			s = sealedAll(s)
		}
		agrees(t, s)
		again(t, s)
		// The same pieces with an end behind them.
		agrees(t, s[:len(s)/512*512]+end())
	})
}

func FuzzPut(f *testing.F) {
	f.Add("a", 1, 0o644, 5, 9, "data", "", "n", "v")
	f.Add("d", 6, 0o755, 2097152, -9, "", "", "", "")
	f.Add("l", 3, 0o777, 5, 1<<40, "", "../t", "trusted.a", "\x00")
	f.Add("h", 2, 0, 0, 0, "", "t", "", "")
	f.Fuzz(func(t *testing.T, path string, kind, mode, id, sec int, data, target, name, value string) {
		e := api.Entry{Path: path, Kind: kind, Data: data, Target: target, Meta: api.Meta{Mode: mode, Uid: id, Gid: id, Mtime: api.Stamp{Sec: sec}}}
		if name != "" {
			e.Meta.Xattrs = xs(name, value)
		}
		if kind == api.KChar || kind == api.KBlock {
			e.Major, e.Minor = id, mode
		}
		puts(t, e)
		puts(t, small(api.KFile), e, full(api.KDir))
		puts(t, e, e)
	})
}
