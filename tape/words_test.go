package tape

import (
	"fmt"
	"reflect"
	"regexp"
	"slices"
	"strconv"
	"strings"
	"testing"

	"gripsack/api"
	"gripsack/entry"
	"gripsack/head"
	"gripsack/rec"
)

// What the calls answer by the words of the chapter: another writing of all of
// it, against which the tests of this folder hold the package. The chapter's
// numbers are written out.

func rep(s string, n int) string { return strings.Repeat(s, n) }

func zeros(n int) string { return rep("\x00", n) }

// end is what stands behind the last entry.
func end() string { return zeros(1024) }

// padded fills s up to whole blocks.
func padded(s string) string { return s + zeros((512-len(s)%512)%512) }

// rs are records: key, value, key, value.
func rs(l ...string) []api.Rec {
	var out []api.Rec
	for i := 0; i+1 < len(l); i += 2 {
		out = append(out, api.Rec{Key: l[i], Value: l[i+1]})
	}
	return out
}

// xs are attributes: name, value, name, value.
func xs(l ...string) []api.Xattr {
	var out []api.Xattr
	for i := 0; i+1 < len(l); i += 2 {
		out = append(out, api.Xattr{Name: l[i], Value: l[i+1]})
	}
	return out
}

// lines are the encodings of records.
func lines(l []api.Rec) string {
	s := ""
	for _, r := range l {
		rest := " " + r.Key + "=" + r.Value + "\n"
		n := len(rest) + 1
		for n != len(rest)+len(strconv.Itoa(n)) {
			n++
		}
		s += strconv.Itoa(n) + rest
	}
	return s
}

// field writes a number in octal digits, or in binary where these have no room.
func field(n, width int) string {
	if n >= 0 && n < 1<<min(3*(width-1), 62) {
		return fmt.Sprintf("%0*o\x00", width-1, n)
	}
	b := make([]byte, width)
	for i := range b {
		b[i] = byte(n >> min(8*(width-1-i), 63))
	}
	b[0] = 128
	if n < 0 {
		b[0] = 255
	}
	return string(b)
}

// block lays out a header.
func block(h api.Header) string {
	b := make([]byte, 512)
	copy(b, h.Name)
	copy(b[100:], field(h.Mode, 8)+field(h.Uid, 8)+field(h.Gid, 8)+field(h.Size, 12)+field(h.Mtime, 12))
	b[156] = h.Type
	copy(b[157:], h.Link)
	copy(b[257:], "ustar\x0000")
	copy(b[265:], h.Uname)
	copy(b[297:], h.Gname)
	copy(b[329:], field(h.Major, 8)+field(h.Minor, 8))
	copy(b[345:], h.Prefix)
	return sealed(string(b))
}

// sealed puts the right checksum in a block.
func sealed(s string) string {
	b := []byte(s)
	copy(b[148:], "        ")
	sum := 0
	for _, c := range b {
		sum += int(c)
	}
	copy(b[148:], fmt.Sprintf("%06o\x00 ", sum))
	return string(b)
}

// piece is a header with what stands behind it, or the end of an archive.
type piece struct {
	h    api.Header
	read bool // h is one
	data string
	recs []api.Rec
	end  bool
	// wrong is what is wrong with the piece, whatever stands ahead of it.
	wrong api.Errno
}

// isEntry tells whether a piece begins with the header of an entry.
func (p piece) isEntry() bool {
	return p.read && p.h.Type != 'x' && p.h.Type != 'g'
}

// first is the first piece of s, and the number of its bytes.
func first(s string) (p piece, size int) {
	h, e := head.Get(s)
	p.h, p.read, p.wrong, p.end = h, e == api.OK, e, e == api.ErrNone
	if p.end {
		p.wrong = endWrong(s[512:])
	}
	if e != api.OK {
		return p, 512
	}
	blocks := 512 * (h.Size/512 + min(h.Size%512, 1))
	switch {
	case h.Size > 65536:
		p.wrong = api.ErrLimit
	case len(s) < 512+blocks:
		p.wrong = api.ErrMore
	case strings.Trim(s[512+h.Size:512+blocks], "\x00") != "":
		p.wrong = api.ErrForm
	case h.Type == 'x' || h.Type == 'g':
		p.recs, p.wrong = rec.All(s[512 : 512+h.Size])
	default:
		p.data = s[512 : 512+h.Size]
	}
	return p, 512 + blocks
}

// endWrong is what is wrong with what follows 512 bytes 0.
func endWrong(s string) api.Errno {
	if len(s) < 512 {
		return api.ErrMore
	}
	if s[:512] != zeros(512) {
		return api.ErrForm
	}
	return api.OK
}

// pieces cuts s at its headers, up to the end or to the first fault.
func pieces(s string) []piece {
	var l []piece
	for {
		p, size := first(s)
		l = append(l, p)
		if p.end || p.wrong != api.OK {
			return l
		}
		s = s[size:]
	}
}

// said is what the pieces of an archive mean, one after the other.
func said(l []piece) ([]api.Entry, api.Errno) {
	var entries []api.Entry
	var global, local []api.Rec
	waiting := 0
	for _, p := range l {
		if p.isEntry() && len(entries) == 256 {
			return nil, api.ErrLimit
		}
		if p.wrong != api.OK {
			return nil, p.wrong
		}
		if p.isEntry() {
			e, bad := entry.Over(p.h, p.data, append(slices.Clone(global), local...))
			if bad != api.OK {
				return nil, bad
			}
			entries, local, waiting = append(entries, e), nil, 0
		}
		if p.h.Type == 'g' {
			global = append(global, p.recs...)
		}
		if p.h.Type == 'x' {
			local = p.recs
			waiting++
		}
		if waiting > 1 || p.end && waiting > 0 {
			return nil, api.ErrForm
		}
	}
	return entries, api.OK
}

func wantGet(s string) ([]api.Entry, api.Errno) { return said(pieces(s)) }

var gap = regexp.MustCompile(`(\\x00){9,}`)

// cut is what a fault shows of something.
func cut(v any) string {
	s := gap.ReplaceAllString(strconv.Quote(fmt.Sprintf("%+v", v)), "..0..")
	if len(s) > 500 {
		return fmt.Sprintf("%s.. (%d bytes)", s[:500], len(s))
	}
	return s
}

// same asks each field of each of two lists of entries.
func same(a, b []api.Entry) bool {
	return slices.EqualFunc(a, b, func(x, y api.Entry) bool {
		lists := slices.Equal(x.Meta.Acl, y.Meta.Acl) && slices.Equal(x.Meta.Default, y.Meta.Default) && slices.Equal(x.Meta.Xattrs, y.Meta.Xattrs)
		return lists && reflect.DeepEqual(listless(x), listless(y))
	})
}

func listless(e api.Entry) api.Entry {
	e.Meta.Acl, e.Meta.Default, e.Meta.Xattrs = nil, nil, nil
	return e
}

// gets tells a fault if Get answers otherwise, or the words do.
func gets(t *testing.T, s string, want ...api.Entry) {
	t.Helper()
	if got, e := Get(s); e != api.OK || !same(got, want) {
		t.Errorf("16.2: Get(%s) = %s, %d; want %s", cut(s), cut(got), e, cut(want))
	}
	if got, e := wantGet(s); e != api.OK || !same(got, want) {
		t.Errorf("the words say %s, %d of %s; want %s", cut(got), e, cut(s), cut(want))
	}
}

// fails tells a fault if Get answers an entry or another error, or the words do.
func fails(t *testing.T, s string, want api.Errno) {
	t.Helper()
	if got, e := Get(s); e != want || got != nil {
		t.Errorf("16.2: Get(%s) = %s, %d; want %d", cut(s), cut(got), e, want)
	}
	if got, e := wantGet(s); e != want {
		t.Errorf("the words say %s, %d of %s; want %d", cut(got), e, cut(s), want)
	}
}

// agrees tells a fault if Get answers otherwise than by the words.
func agrees(t *testing.T, s string) api.Errno {
	t.Helper()
	want, e := wantGet(s)
	if e == api.OK {
		gets(t, s, want...)
	} else {
		fails(t, s, e)
	}
	return e
}

// wantPut is the archive of entries, each of them encoded by package entry.
func wantPut(l []api.Entry) (string, api.Errno) {
	valid := 0
	s := ""
	for _, e := range l {
		if entry.May(e) {
			valid++
			s += entry.Put(e)
		}
	}
	switch {
	case len(l) >= 257:
		return "", api.ErrLimit
	case valid < len(l):
		return "", api.ErrArg
	}
	return s + end(), api.OK
}

// puts tells a fault if Put answers otherwise than by the words, or if Get of
// its answer does not return the entries. It returns the archive.
func puts(t *testing.T, l ...api.Entry) string {
	t.Helper()
	want, bad := wantPut(l)
	s, e := Put(l)
	if s != want || e != bad {
		t.Errorf("16.1: Put(%s) = %s, %d; want %s, %d", cut(l), cut(s), e, cut(want), bad)
	}
	if bad == api.OK {
		gets(t, s, l...)
	}
	return s
}

// refuses tells a fault if Put answers an archive or another error.
func refuses(t *testing.T, l []api.Entry, want api.Errno) {
	t.Helper()
	if s, e := Put(l); s != "" || e != want {
		t.Errorf("16.1: Put of %d entries = %s, %d; want %d", len(l), cut(s), e, want)
	}
	puts(t, l...)
}
