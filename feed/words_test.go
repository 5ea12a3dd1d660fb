package feed

import (
	"fmt"
	"math/rand"
	"regexp"
	"slices"
	"strconv"
	"strings"
	"testing"

	"gripsack/api"
	"gripsack/entry"
	"gripsack/head"
	"gripsack/pad"
	"gripsack/rec"
	"gripsack/tape"
)

// What the calls answer by the words of the chapter, out of all bytes at once,
// against which the tests of this folder hold the package. The chapter's numbers
// are written out.

func rep(s string, n int) string { return strings.Repeat(s, n) }

func zeros(n int) string { return rep("\x00", n) }

// end is what stands behind the last entry.
func end() string { return zeros(1024) }

// code is the encoding of one entry.
func code(e api.Entry) string { return entry.Put(e) }

// block is a header.
func block(h api.Header) string { return head.Put(h) }

// records are a header of a type and the text behind it.
func records(kind byte, s string) string {
	return block(api.Header{Name: "h", Type: kind, Size: len(s)}) + pad.Put(s)
}

// lines are the encodings of records: key, value, key, value.
func lines(l ...string) string {
	s := ""
	for i := 0; i+1 < len(l); i += 2 {
		s += rec.Put(api.Rec{Key: l[i], Value: l[i+1]})
	}
	return s
}

// own are the records of the next entry, shared those of all from then on.
func own(l ...string) string    { return records('x', lines(l...)) }
func shared(l ...string) string { return records('g', lines(l...)) }

// turned is s with the byte at an index made another.
func turned(s string, at int, by byte) string {
	b := []byte(s)
	b[at] ^= by
	return string(b)
}

// file is a small file.
func file(path, data string) api.Entry {
	return api.Entry{Path: path, Kind: api.KFile, Data: data, Meta: api.Meta{Mode: 0o600, Mtime: api.Stamp{Sec: 9}}}
}

// timed is e with another time.
func timed(e api.Entry, sec int) api.Entry {
	e.Meta.Mtime = api.Stamp{Sec: sec}
	return e
}

// kinds are all that there are.
var kinds = []int{1, 2, 3, 4, 5, 6, 7}

// small is a valid entry of a kind that needs no records.
func small(kind int) api.Entry {
	e := api.Entry{Path: "docs/a", Kind: kind, Meta: api.Meta{Mode: 0o644, Uid: 1000, Gid: 100, Mtime: api.Stamp{Sec: 1700000000}}}
	switch kind {
	case api.KFile:
		e.Data = "hello"
	case api.KHard:
		e.Target, e.Meta = "docs/b", api.Meta{}
	case api.KSym:
		e.Target, e.Meta.Mode = "../b", 0o777
	case api.KChar, api.KBlock:
		e.Major, e.Minor = 8, 2097151
	}
	return e
}

// full is a valid entry of a kind with all the records that it may need.
func full(kind int) api.Entry {
	e := small(kind)
	e.Path = rep("n", 101) + "\xff"
	if e.Target != "" {
		e.Target = rep("t", 101)
	}
	if kind == api.KHard {
		return e
	}
	e.Meta.Uid, e.Meta.Gid = 2097152, 2147483647
	e.Meta.Mtime = api.Stamp{Sec: -2, Nano: 500000000}
	e.Meta.Xattrs = []api.Xattr{{Name: "a=b", Value: "1"}, {Name: "user.a"}}
	if kind != api.KSym {
		e.Meta.Acl, e.Meta.Flags = []api.Ace{{Tag: 1, Perm: 6}, {Tag: 3, Perm: 4}, {Tag: 6, Perm: 4}}, 13
	}
	switch kind {
	case api.KFile:
		e.Meta.Caps = api.Caps{Ver: 2, Effective: true, Permitted: 5}
	case api.KDir:
		e.Meta.Default = []api.Ace{{Tag: 1, Perm: 7}, {Tag: 3}, {Tag: 6}}
	}
	return e
}

// all are the entries of all kinds, with and without records.
func all() []api.Entry {
	var l []api.Entry
	for _, kind := range kinds {
		l = append(l, small(kind), full(kind))
	}
	return l
}

var gap = regexp.MustCompile(`(\\x00){9,}`)

// cut is what a fault shows of something.
func cut(v any) string {
	s := gap.ReplaceAllString(strconv.Quote(fmt.Sprintf("%+v", v)), "..0..")
	if len(s) > 500 {
		return fmt.Sprintf("%s.. (%d bytes)", s[:500], len(s))
	}
	return s
}

func same(a, b []api.Entry) bool { return slices.EqualFunc(a, b, entry.Same) }

// copied is l in memory of its own.
func copied(l []api.Entry) []api.Entry {
	var out []api.Entry
	for _, e := range l {
		e.Meta.Acl = append([]api.Ace(nil), e.Meta.Acl...)
		e.Meta.Default = append([]api.Ace(nil), e.Meta.Default...)
		e.Meta.Xattrs = append([]api.Xattr(nil), e.Meta.Xattrs...)
		out = append(out, e)
	}
	return out
}

// truth is what the words say of each part of an archive, from its beginning on.
type truth struct {
	s       string
	entries [][]api.Entry // of the longest good part of so many whole blocks
	ends    map[int]ending
}

// ending is what tape.Get answers.
type ending struct {
	l []api.Entry
	e api.Errno
}

// truthOf tries each part of whole blocks by itself.
func truthOf(s string) truth {
	w := truth{s: s, ends: map[int]ending{}}
	var longest []api.Entry
	for n := 0; n <= len(s); n += 512 {
		if l, e := tape.Get(s[:n] + zeros(1024)); e == api.OK {
			longest = l
		}
		w.entries = append(w.entries, longest)
	}
	return w
}

// end is the result of tape.Get for the first n bytes.
func (w truth) end(n int) ([]api.Entry, api.Errno) {
	if _, known := w.ends[n]; !known {
		l, e := tape.Get(w.s[:n])
		w.ends[n] = ending{l, e}
	}
	return w.ends[n].l, w.ends[n].e
}

// feed is what Feed answers of the piece that ends behind n bytes.
func (w truth) feed(n int) api.Errno {
	if _, e := w.end(n); e != api.ErrMore {
		return e
	}
	return api.OK
}

// asked tells a fault if a Reader that n bytes have come to answers otherwise
// than by the words.
func (w truth) asked(t *testing.T, r *Reader, n int) {
	t.Helper()
	want, bad := w.end(n)
	if l, e := r.End(); e != bad || !same(l, want) {
		t.Fatalf("17.1: after %d of %d bytes of %s End is %s, %d; want %s, %d", n, len(w.s), cut(w.s), cut(l), e, cut(want), bad)
	}
	if l := r.Entries(); !same(l, w.entries[n/512]) {
		t.Fatalf("17.1: after %d of %d bytes of %s Entries are %s; want %s", n, len(w.s), cut(w.s), cut(l), cut(w.entries[n/512]))
	}
}

// fed feeds one piece, up to n bytes, and tells a fault if anything is
// otherwise than by the words.
func (w truth) fed(t *testing.T, r *Reader, from, n int) {
	t.Helper()
	if e, want := r.Feed(w.s[from:n]), w.feed(n); e != want {
		t.Fatalf("17.1: Feed of the bytes from %d to %d of %s is %d; want %d", from, n, cut(w.s), e, want)
	}
	w.asked(t, r, n)
}

// divided feeds all bytes in pieces whose sizes size tells, and asks after each.
// It returns the Reader.
func (w truth) divided(t *testing.T, size func(at int) int) *Reader {
	t.Helper()
	r := New()
	w.asked(t, r, 0)
	for at := 0; at < len(w.s); {
		to := min(len(w.s), at+size(at))
		w.fed(t, r, at, to)
		at = to
	}
	return r
}

// bySize is a division into pieces of one size.
func bySize(n int) func(int) int {
	return func(int) int { return n }
}

// uneven is a division into pieces of all sizes, some of no bytes.
func uneven(seed int64) func(int) int {
	random := rand.New(rand.NewSource(seed))
	return func(int) int {
		switch random.Intn(4) {
		case 0:
			return random.Intn(4)
		case 1:
			return 512*random.Intn(3) + random.Intn(3)
		}
		return random.Intn(700)
	}
}

// says tells a fault if an archive, fed whole, byte by byte, block by block and
// in uneven pieces, is not said to hold these entries with this result at its
// end, or if anything is otherwise than by the words on the way.
func says(t *testing.T, s string, bad api.Errno, want ...api.Entry) {
	t.Helper()
	w := truthOf(s)
	divisions := []func(int) int{bySize(len(s) + 1), bySize(512), bySize(511), bySize(513), bySize(1024), uneven(1), uneven(2)}
	if len(s) <= 4096 {
		divisions = append(divisions, bySize(1))
	}
	for i, size := range divisions {
		r := w.divided(t, size)
		if l := r.Entries(); !same(l, want) {
			t.Errorf("17.2: in division %d Entries of %s are %s; want %s", i, cut(s), cut(l), cut(want))
		}
		l, e := r.End()
		if e != bad || e == api.OK && !same(l, want) || e != api.OK && l != nil {
			t.Errorf("17.2: in division %d End of %s is %s, %d; want %d", i, cut(s), cut(l), e, bad)
		}
	}
}
